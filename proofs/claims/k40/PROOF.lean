import PyProof.Rows.All
import Wide.All
import OpenK.AllK
import Wide.FinOn
import PyProof.EqAt
import PyProof.EqKinds
import PyProof.TupleCall
import OpenK.KOwn
import PyProof.CompUse
import PyProof.NeKinds
import PyProof.StrOps2
import KE.KDictOf
import PyProof.AttrMissHeap
import PyProof.ListRange
import PyProof.TupleOfGen
import PyProof.CollectStr
import KE.KRevIter
import PyProof.DictItems
import KE.KItemsList
import KE.KPairComp
import PyProof.Rows.Range3
import KE.KStateDown
import PyProof.StrLawsTight
import PyProof.StrLawsChain
import PyProof.StrLawsIn
import PyProof.StrLawsIdx
import PyProof.Rows.CatFin
import PyProof.Rows.StrItems
import KE.IntTextLaws
import PyProof.Rows.ReprOcc
import PyProof.FitsInt
import KE.KIntText
import Lean
import PySem.Challenge.RW_glyphhall_k40_marks_stacked
set_option Elab.async false
set_option linter.all false
set_option maxRecDepth 100000
set_option maxHeartbeats 0
def aa:=@List.length_map
def ac:=@List.getElem?_eq_some_iff
def ae:=@Bool.and_eq_true
def af:=@List.getElem?_eq_getElem
def ai:=@Nat.le_refl
def aj:=@List.getElem?_map
def ak:=@List.mem_map
def al:=@List.map_append
def ao:=@List.length_append
def aq:=@List.getElem?_append_right
def av:=@List.getElem?_append_left
def aw:=@of_decide_eq_true
def ax:=@Option.some.inj
def ay:=@if_pos
def az:=@if_neg
def aA:=@List.append_assoc
def aB:=@Nat.zero_add
def aC:=@Nat.lt_of_lt_of_le
def aD:=@List.mem_cons_of_mem
def aE:=@List.mem_cons
def aG:=@List.mem_of_getElem?
def aH:=@List.map_map
def aI:=@List.length_range
def aJ:=@List.getElem?_range
def aK:=@List.mem_append
def aM:=@List.length_take
def aN:=@List.length_set
def aO:=@List.mem_range
def aP:=@List.mem_singleton
def aR:=@Nat.lt_irrefl
def aU:=@Nat.le_trans
def aV:=@Nat.lt_succ_self
def aX:=@Nat.le_of_not_lt
def aY:=@List.nodup_cons
def aZ:=@List.getElem?_eq_none
def bc:=@List.map_congr_left
def bf:=@List.mem_cons_self
def bh:=@List.append_nil
def bj:=@List.getElem?_of_mem
def bm:=@decide_eq_true
def bn:=@List.take_length
def bp:=@List.take_of_length_le
def bq:=@List.mem_filter
def bt:=@List.length_replicate
def bu:=@List.all_eq_true
def bv:=@Bool.false_ne_true
def bw:=@List.getElem_mem
def bx:=@List.range_succ
def bz:=@List.find?_eq_none
def bA:=@List.getD_eq_getElem?_getD
def bB:=@decide_eq_false
def bC:=@Nat.sub_self
def bD:=@List.length_drop
def bE:=@List.getElem?_take_of_lt
def bF:=@List.getElem?_replicate
open List (getElem_inj mem_append_right size_toArray length_cons map_cons of_mem_zip map_nil all_cons any_cons reverse_cons replicate_succ flatten_cons foldl_cons nil_append length_nil lookup_cons all_map not_mem_nil drop_zero length_reverse take_succ_eq_append_getElem nodup_append ext_getElem? nodup_nil any_eq_true isEmpty_iff length_eq_zero_iff drop_length cons_ne_nil cons_append set_cons_succ map_id set_append_right all_nil drop_succ_cons nodup_range sum_cons take_append_drop sum_append flatten_append take_succ map_reverse)
local macro_rules
  | `(~~~$x) => `(some (.ref $x))
local macro_rules
  | `($x⁻¹) => `(some (.int ($x : Int)))
noncomputable section
set_option compiler.extract_closed false
namespace L2
open PySem PySem.Spec PyProof.Rows
abbrev Key:=Sum Int Str
noncomputable def a2Z:Key->Value->Bool
 |.inl k,v=>Value.isInt k v
 |.inr x,v=>Value.isStrOf x v
noncomputable def c0U(w:World):Key->Int
 |.inl k=>hashInt k
 |.inr x=>hashStr w x
theorem v5:∀{k:Key} {v:Value},a2Z k v=true->(∃i t,k=Sum.inl i/\v=Value.int i t)∨(∃x t,k=Sum.inr x/\v=Value.str x t)
 |.inl i,v,h=>by
  obtain⟨t,e⟩:=Value.isInt_shape (k:=i) (v:=v) h;exact .inl ⟨i,t,rfl,e⟩
 |.inr x,v,h=>by
  obtain⟨t,e⟩:=Value.isStrOf_shape (x:=x) (v:=v) h;exact .inr ⟨x,t,rfl,e⟩
theorem a9l(i:Int)(t:Tok):a2Z (.inl i) (.int i t)=true:=by simp[a2Z,Value.isInt]
theorem a9j(x:Str)(t:Tok):a2Z (.inr x) (.str x t)=true:=by simp[a2Z,Value.isStrOf]
theorem b6E(a b:Int):decide ((Sum.inl a:Key)=Sum.inl b)=(a==b):=by
 by_cases e:a=b
 · subst e;simp
 · have h:¬(Sum.inl a:Key)=Sum.inl b:=fun q=>e (Sum.inl.inj q)
   rw[bB h];exact(beq_eq_false_iff_ne.mpr e).symm
theorem b6B(a b:Str):decide ((Sum.inr a:Key)=Sum.inr b)=decide (a=b):=by
 by_cases e:a=b
 · subst e;simp
 · have h:¬(Sum.inr a:Key)=Sum.inr b:=fun q=>e (Sum.inr.inj q)
   rw[bB h,bB e]
theorem b6D(a:Int)(b:Str):decide ((Sum.inl a:Key)=Sum.inr b)=false:=bB (fun q=>nomatch q)
theorem b6C(a:Str)(b:Int):decide ((Sum.inr a:Key)=Sum.inl b)=false:=bB (fun q=>nomatch q)
def n9 (prog:Program) (w:World):PySem.KeyKind prog w Key where
 is:=a2Z
 hash:=c0U w
 inj:=fun v a b ha hb=>by
  rcases v5 ha with⟨i,t,rfl,rfl⟩|⟨x,t,rfl,rfl⟩
  · rcases v5 hb with⟨j,u,rfl,e⟩|⟨y,u,rfl,e⟩
    · injection e with e1 _;rw[e1]
    · exact nomatch e
  · rcases v5 hb with⟨j,u,rfl,e⟩|⟨y,u,rfl,e⟩
    · exact nomatch e
    · injection e with e1 _;rw[e1]
 byValue:=fun k v h=>by
  rcases v5 h with⟨i,t,rfl,rfl⟩|⟨x,t,rfl,rfl⟩<;>rfl
 pyHash:=fun hv h=>by
  rcases v5 hv with⟨i,t,rfl,rfl⟩|⟨x,t,rfl,rfl⟩
  · exact wpAny_pyHash_int h
  · exact wpAny_pyHash_str h
 eqBool:=fun hu hv h=>by
  rcases v5 hu with⟨i,t,rfl,rfl⟩|⟨x,t,rfl,rfl⟩
  · rcases v5 hv with⟨j,u,rfl,rfl⟩|⟨y,u,rfl,rfl⟩
    · rw[b6E] at h;exact wpAny_eqBool_int h
    · rw[b6D] at h;exact SeqAt.EqAt.int_str i t y u _ _ _ _ h
  · rcases v5 hv with⟨j,u,rfl,rfl⟩|⟨y,u,rfl,rfl⟩
    · rw[b6C] at h;exact SeqAt.EqAt.str_int x t j u _ _ _ _ h
    · rw[b6B] at h;exact wpAny_eqBool_str h
 «strs»:=fun k x t v h=>by
  rcases v5 h with⟨i,u,rfl,e⟩|⟨y,u,rfl,e⟩
  · exact nomatch e
  · injection e with e1 _
    subst e1
    cases v<;>rfl
theorem a6d(prog:Program)(w:World)(i:Int)(t:Tok):(n9 prog w).is (.inl i) (.int i t)=true:=a9l i t
theorem a6c(prog:Program)(w:World)(x:Str)(t:Tok):(n9 prog w).is (.inr x) (.str x t)=true:=a9j x t
inductive V where
 |non|bl (b:Bool)|int (i:Int)|str (x:Str)|byt (b:Array UInt8)|flt (b:UInt64)|ref (a:Addr)|ty (n:String)
 deriving DecidableEq
def f6:V->Value->Prop
 |.non,u=>u=Value.none
 |.bl b,u=>u=Value.bool b
 |.int i,u=>∃t,u=Value.int i t
 |.str x,u=>∃t,u=Value.str x t
 |.byt b,u=>∃t,u=Value.bytes b t
 |.flt b,u=>∃t,u=Value.float b t
 |.ref a,u=>u=Value.ref a
 |.ty n,u=>u=Value.type n
abbrev i7:List V->List Value->Prop:=Paired f6
variable{us:List Value}
theorem i7.length{xs:List V}(r:i7 xs us):xs.length=us.length:=Paired.length r
theorem i7.get:∀{xs:List V} {us:List Value} {i:Nat} {x:V},i7 xs us->xs[i]? =some x->∃u,us[i]? =some u/\f6 x u
 |_,_,_,_,.nil,e=>by simp at e
 |_,_,0,_,.cons r _,e=>by simp at e;subst e;exact⟨_,rfl,r⟩
 |_,_,i+1,x,.cons _ t,e=>by
  obtain⟨u,h1,h2⟩:=i7.get (i:=i) (x:=x) t (by simpa using e)
  exact⟨u,by simpa using h1,h2⟩
theorem i7.set{x:V}{u:Value}(r:f6 x u):∀{xs:List V} {us:List Value} (i:Nat),i7 xs us->i7 (xs.set i x) (us.set i u)
 |_,_,_,.nil=>.nil
 |_,_,0,.cons _ t=>.cons r t
 |_,_,i+1,.cons q t=>.cons q (i7.set r i t)
theorem i7.append:∀{xs ys:List V} {us ws:List Value},i7 xs us->i7 ys ws->i7 (xs++ys) (us++ws)
 |_,_,_,_,.nil,s=>s
 |_,_,_,_,.cons r t,s=>.cons r (i7.append t s)
theorem i7.take:∀{xs:List V} {us:List Value} (n:Nat),i7 xs us->i7 (xs.take n) (us.take n)
 |_,_,0,_=>.nil
 |_,_,_+1,.nil=>.nil
 |_,_,n+1,.cons r t=>.cons r (i7.take n t)
theorem i7.drop:∀{xs:List V} {us:List Value} (n:Nat),i7 xs us->i7 (xs.drop n) (us.drop n)
 |_,_,0,r=>r
 |_,_,_+1,.nil=>.nil
 |_,_,n+1,.cons _ t=>i7.drop n t
def a0y:Option V->Option Value->Prop
 |some v,some u=>f6 v u
 |none,none=>True
 |_,_=>False
def KV{κ:Type}:List (κ×V)->List (κ×Value)->Prop:=Paired fun(p:κ×V) (q:κ×Value)=>p.1=q.1/\f6 p.2 q.2
noncomputable def kV:Key->V
 |.inl i=>.int i
 |.inr x=>.str x
inductive HO where
 /-- a list -/
 |lst (xs:List V)
 /-- a tuple (never changes) -/
 |tup (xs:List V)
 /-- a dict whose keys are ints and texts; one whose keys are tuples of ints and texts (the empty one is both) -/
 |dK (kvs:List (Key×V))|dT (kvs:List (List Key×V))
 /-- a set of ints: its members, its size -/
 |set (S:Int->Bool) (n:Nat)
 /-- an instance of the class at C, its dict at dx, its attributes -/
 |ins (C dx:Addr) (fs:List (Str×V))
 /-- the dict of the instance at x -/
 |own (x:Addr)
 /-- the dict of an exception -/
 |xd (fs:List (Str×V))
 /-- a bound method, f of x -/
 |met (f x:Addr)
 /-- a range object lo, lo + 1, .. below hi -/
 |rng (lo hi:Int)
 /-- a thing that is known to the object (the script; a dict while a loop walks it): read, never written while it is so -/
 |frz (o:Obj) (u:HO)
 /-- a code object's table -/
 |tbl (ps:Array Value)
 /-- any other thing, by what is true of its one object (a def of one's own: SetO a S n := HO.ext fun h => ..) -/
 |ext (φ:Heap->Prop)
abbrev Hp:=Addr->Option HO
noncomputable def upd(H:Hp)(a:Addr)(o:HO):Hp:=fun b=>if b=a then some o else H b
variable{H:Hp}{a:Addr}
theorem b8{o:HO}:upd H a o a=some o:=by unfold upd;rw[ay rfl]
variable{b:Addr}
theorem c9{o:HO}(h:b≠a):upd H a o b=H b:=by unfold upd;rw[az h]
theorem b8N{o u:HO}(h:H a=some o)(h':H b=some u)(d:o≠u):a≠b:=by
 intro e;subst e;rw[h] at h';exact d (ax h')
theorem o4{o:HO}(h:H a=some o)(h':H b=none):a≠b:=by
 intro e;subst e;rw[h] at h';cases h'
def a0j(h:Heap)(a:Addr)(items:Array Value):Prop:=∃o,h.get? a=some o/\o.cls=.type "tuple"/\o.dict=none/\∃n,o.data=.seq items n
theorem a0j.tup{h:Heap}{a:Addr}{items:Array Value}(x:a0j h a items):IsTup h a items:=let⟨o,e,c,_,n⟩:=x;⟨o,e,c,n⟩
theorem a0j.new(h:Heap)(items:Array Value):a0j (h.push {cls:=.type "tuple",data:=.seq items}) h.objs.size items:=⟨_,Heap.get?_push_size _ rfl,rfl,rfl,_,rfl⟩
section
variable(P:Program)(w:World)
def p0(H:Hp)(h:Heap)(a:Addr):HO->Prop
 |.lst xs=>xs.length<=sizeLine/\∃(its:List Value) (n:Nat),i7 xs its/\h.get? a=some {cls:=.type "list",data:=.seq its.toArray n}
 |.tup xs=>xs.length<=sizeLine/\∃its:List Value,i7 xs its/\a0j h a its.toArray
 |.dK kvs=>kvs.length<=sizeLine/\(a==sysModules)=false/\∃vs,KV kvs vs/\h.DictOf (n9 P w) a vs
 |.dT kvs=>kvs.length<=sizeLine/\(a==sysModules)=false/\∃xs:List (List Key×Addr×Value),
  Paired (fun(p:List Key×V) (q:List Key×Addr×Value)=>p.1=q.1/\H q.2.1=some (.tup (p.1.map kV))/\f6 p.2 q.2.2) kvs xs∧
  ∃o es ep,h.get? a=some o/\o.ExactDict/\o.data=.dict es ep/\es.toList=xs.map (entryOfKey (tupleKind (n9 P w)))/\(xs.map (·.1)).Nodup
 |.set S n=>h.SetOf (intKind P w) a S n
 |.ins C dx fs=>H dx=some (.own a)/\fs.length<=1000/\dx≠a/\h.get? a=some (PySem.W.instObj C dx)∧
  ∃mA,h.Ns1 dx mA/\(∀f,a0y (fs.lookup f) (mA f))/\PySem.Within mA (fs.map (·.1))
 |.own _=>∃o,h.get? a=some o
 |.xd fs=>∃mA,h.Ns1 a mA/\∀f,a0y (fs.lookup f) (mA f)
 |.rng lo hi=>∃t u v,h.get? a=some {cls:=.type "range",data:=.fields #[.int lo t,.int hi u,.int 1 v]}
 |.frz o u=>h.get? a=some o/\p0 H h a u
 |.tbl ps=>h.get? a=some {cls:=.none,data:=.fields ps}
 |.met f x=>h.get? a=some (PySem.W.methodObj (.ref f) (.ref x))
 |.ext φ=>φ h/\(∃o,h.get? a=some o)/\∀h1 h2:Heap,φ h1->(∀o,h1.get? a=some o->h2.get? a=some o)->φ h2
def HOk(H:Hp)(h:Heap):Prop:=∀a o,H a=some o->p0 P w H h a o
end
variable{α:Type}
section
variable{P:Program}{w:World}{H':Hp}{h h':Heap}{o:HO}
theorem p0.lt(x:p0 P w H h a o):a<h.objs.size:=by
 cases o with
 |lst xs=>obtain⟨_,_,_,_,e⟩:=x;exact Heap.lt_size e
 |tup xs=>obtain⟨_,_,_,p⟩:=x;exact p.tup.lt
 |dK kvs=>obtain⟨_,_,_,_,o,_,_,e,_⟩:=x;exact Heap.lt_size e
 |dT kvs=>obtain⟨_,_,_,_,o,_,_,e,_⟩:=x;exact Heap.lt_size e
 |set S n=>obtain⟨o,_,_,_,e,_⟩:=x;exact Heap.lt_size e
 |ins C dx fs=>obtain⟨_,_,_,e,_⟩:=x;exact Heap.lt_size e
 |own y=>obtain⟨_,e⟩:=x;exact Heap.lt_size e
 |xd fs=>obtain⟨_,⟨_,_,_,e,_⟩,_⟩:=x;exact Heap.lt_size e
 |rng lo hi=>obtain⟨_,_,_,e⟩:=x;exact Heap.lt_size e
 |frz ob u=>obtain⟨e,_⟩:=x;exact Heap.lt_size e
 |tbl ps=>exact Heap.lt_size (show h.get? a=some _ from x)
 |met f y=>exact Heap.lt_size (show h.get? a=some _ from x)
 |ext φ=>obtain⟨_,⟨_,e⟩,_⟩:=x;exact Heap.lt_size e
theorem Paired.mapP{α β:Type}{F G:α->β->Prop}:∀{l₁:List α} {l₂:List β},Paired F l₁ l₂->(∀a b,F a b->G a b)->Paired G l₁ l₂
 |_,_,.nil,_=>.nil
 |_,_,.cons r t,f=>.cons (f _ _ r) (Paired.mapP t f)
theorem p0.stay(x:p0 P w H h a o)(k:∀b u,(b=a∨H b=some (.own a))->h.get? b=some u->h'.get? b=some u)
 (ho:∀b,H b=some (.own a)->H' b=some (.own a)) (ht:∀b xs,H b=some (.tup xs)->H' b=some (.tup xs)):p0 P w H' h' a o:=by
 induction o with
 |lst xs=>obtain⟨z,its,n,r,e⟩:=x;exact⟨z,its,n,r,k _ _ (.inl rfl) e⟩
 |tup xs=>obtain⟨z,its,r,ob,e,c⟩:=x;exact⟨z,its,r,ob,k _ _ (.inl rfl) e,c⟩
 |dK kvs=>obtain⟨z,y,vs,r,ob,es,ep,e,c⟩:=x;exact⟨z,y,vs,r,ob,es,ep,k _ _ (.inl rfl) e,c⟩
 |dT kvs=>
  obtain⟨z,y,xs,r,ob,es,ep,e,c⟩:=x;exact⟨z,y,xs,Paired.mapP r fun p q z=>⟨z.1,ht _ _ z.2.1,z.2.2⟩,ob,es,ep,k _ _ (.inl rfl) e,c⟩
 |set S n=>obtain⟨ob,es,ep,t,e,c⟩:=x;exact⟨ob,es,ep,t,k _ _ (.inl rfl) e,c⟩
 |ins C dx fs=>
  obtain⟨d,z,ne,e,mA,⟨od,es,ep,e2,c⟩,r⟩:=x;exact⟨ho _ d,z,ne,k _ _ (.inl rfl) e,mA,⟨od,es,ep,k _ _ (.inr d) e2,c⟩,r⟩
 |own y=>obtain⟨ob,e⟩:=x;exact⟨ob,k _ _ (.inl rfl) e⟩
 |xd fs=>obtain⟨mA,⟨od,es,ep,e,c⟩,r⟩:=x;exact⟨mA,⟨od,es,ep,k _ _ (.inl rfl) e,c⟩,r⟩
 |rng lo hi=>obtain⟨t,u,v,e⟩:=x;exact⟨t,u,v,k _ _ (.inl rfl) e⟩
 |frz ob u ih=>obtain⟨e,q⟩:=x;exact⟨k _ _ (.inl rfl) e,ih q⟩
 |tbl ps=>
  have e:h.get? a=some {cls:=.none,data:=.fields ps}:=x
  show h'.get? a=some {cls:=.none,data:=.fields ps}
  exact k a _ (.inl rfl) e
 |met f y=>
  have e:h.get? a=some (PySem.W.methodObj (.ref f) (.ref y)):=x
  show h'.get? a=some (PySem.W.methodObj (.ref f) (.ref y))
  exact k a _ (.inl rfl) e
 |ext φ=>obtain⟨p,⟨o,e⟩,st⟩:=x;exact⟨st _ _ p fun o q=>k _ _ (.inl rfl) q,⟨o,k _ _ (.inl rfl) e⟩,st⟩
theorem HOk.lt(x:HOk P w H h)(e:H a=some o):a<h.objs.size:=(x a o e).lt
theorem HOk.fresh(x:HOk P w H h)(e:h.objs.size<=a):H a=none:=by
 cases q:H a with
 |none=>rfl
 |some u=>exact absurd (aC (x.lt q) e) (aR _)
theorem HOk.kept(x:HOk P w H h)(k:∀b u,h.get? b=some u->h'.get? b=some u):HOk P w H h':=fun a o e=>
 (x a o e).stay (fun b u _ q=>k b u q) (fun _ q=>q) fun _ _ q=>q
theorem HOk.laid(x:HOk P w H h)(k:∀b u,h.get? b=some u->h'.get? b=some u)(hp:h.objs.size<=a)(new:p0 P w (upd H a o) h' a o):HOk P w (upd H a o) h':=fun b u e=>by
 have hn:=x.fresh hp
 by_cases hb:b=a
 · subst hb;rw[b8] at e;cases e;exact new
 · rw[c9 hb] at e;exact(x b u e).stay (fun c v _ q=>k c v q) (fun c q=>by rw[c9 (o4 q hn)];exact q) fun c xs q=>by rw[c9 (o4 q hn)];exact q
end
def Rd(H:Hp)(a:Addr)(u:HO):Prop:=H a=some u∨∃o,H a=some (.frz o u)
variable{P:Program}{w:World}{h:Heap}
theorem Rd.ok{u:HO}(r:Rd H a u)(x:HOk P w H h):p0 P w H h a u:=by
 rcases r with r|⟨o,r⟩
 · exact x a u r
 · obtain⟨_,q⟩:=x a _ r;exact q
def Mut:Option HO->Prop
 |some (.lst _)=>True
 |some (.dK _)=>True
 |some (.dT _)=>True
 |some (.set _ _)=>True
 |some (.ins _ _ _)=>True
 |some (.ext _)=>True
 |_=>False
section
variable{h':Heap}{x e:Addr}{o':HO}
theorem HOk.write(ok:HOk P w H h)(mu:Mut (H x))(he:e=x∨H e=some (.own x))(k:∀b u,b≠e->h.get? b=some u->h'.get? b=some u)(heo:∃u,h'.get? e=some u)
 (new:p0 P w (upd H x o') h' x o'):HOk P w (upd H x o') h':=fun b u q=>by
 have nown:∀c y,H c=some (.own y)->c≠x:=fun c y r z=>by subst z;rw[r] at mu;exact mu
 have ntup:∀c xs,H c=some (.tup xs)->c≠x:=fun c xs r z=>by subst z;rw[r] at mu;exact mu
 by_cases hb:b=x
 · subst hb;rw[b8] at q;cases q;exact new
 · rw [c9 hb] at q
   by_cases hbe:b=e
   · have q':H b=some (.own x):=by
      rcases he with z|z
      · exact absurd (hbe.trans z) hb
      · rw[hbe];exact z
     rw[q] at q';cases q'
     obtain⟨v,hv⟩:=heo;exact⟨v,by rw[hbe];exact hv⟩
   · refine(ok b u q).stay (fun c v hc r=>k c v ?_ r) (fun c r=>by rw[c9 (nown c b r)];exact r) fun c xs r=>by rw[c9 (ntup c xs r)];exact r
     rcases hc with rfl|hc
     · exact hbe
     · rintro rfl
       rcases he with z|z
       · exact nown c b hc z
       · rw[hc] at z;cases z;exact hb rfl
end
structure Un(fs ex:List Addr)(H H':Hp)(h h':Heap):Prop where
 keep:∀b o,h.get? b=some o->H b=none->b∉fs->b∉ex->h'.get? b=some o
 slot:∀b o,h.get? b=some o->H b=none->b∈fs->b∉ex->∃sl,h'.get? b=some {o with slots:=sl}
 free:∀b o,h.get? b=some o->H b=none->b∉ex->H' b=none
 there:∀b o,h.get? b=some o->b∉ex->∃o',h'.get? b=some o'
 tups:∀b xs,H b=some (.tup xs)->H' b=some (.tup xs)
 frzs:∀b o u,H b=some (.frz o u)->H' b=some (.frz o u)
 tbls:∀b ps,H b=some (.tbl ps)->∃more,H' b=some (.tbl (ps++more))
section
variable{fs fs' ex ex':List Addr}{H1 H2:Hp}{h1 h2 h':Heap}{x e:Addr}{o:HO}
theorem Un.any(u:Un fs ex H H1 h h1){ob:Obj}(q:h.get? b=some ob)(n:H b=none)(hx:b∉ex):∃sl,h1.get? b=some {ob with slots:=sl}:=by
 by_cases hb:b∈fs
 · exact u.slot b ob q n hb hx
 · exact⟨ob.slots,u.keep b ob q n hb hx⟩
theorem Un.kept(k:∀b u,h.get? b=some u->h'.get? b=some u):Un fs ex H H h h':=
 ⟨fun b ob q _ _ _=>k b ob q,fun b ob q _ _ _=>⟨ob.slots,k b ob q⟩,fun _ _ _ n _=>n,fun b ob q _=>⟨ob,k b ob q⟩,fun _ _ q=>q,fun _ _ _ q=>q,fun _ ps q=>⟨#[],by rw[q];simp⟩⟩
theorem Un.refl:Un fs ex H H h h:=Un.kept fun _ _ q=>q
theorem Un.laid(k:∀b u,h.get? b=some u->h'.get? b=some u)(hp:h.objs.size<=a)(hn:H a=none):Un fs ex H (upd H a o) h h' where
 keep:=fun b u q _ _ _=>k b u q
 slot:=fun b u q _ _ _=>⟨u.slots,k b u q⟩
 free:=fun b u q n _=>by rw[c9 (Nat.ne_of_lt (aC (Heap.lt_size q) hp))];exact n
 there:=fun b u q _=>⟨u,k b u q⟩
 tups:=fun b xs q=>by rw[c9 (o4 q hn)];exact q
 frzs:=fun b u xs q=>by rw[c9 (o4 q hn)];exact q
 tbls:=fun b ps q=>⟨#[],by rw[c9 (o4 q hn),q];simp⟩
theorem Un.write(mu:Mut (H x))(he:e=x∨H e=some (.own x))(k:∀b u,b≠e->h.get? b=some u->h'.get? b=some u)(heo:∃u,h'.get? e=some u):Un fs ex H (upd H x o) h h':=by
 have hx:∀b,H b=none->b≠x:=fun b n z=>by subst z;rw[n] at mu;exact mu
 have hb:∀b,H b=none->b≠e:=fun b n z=>by
  subst z
  rcases he with r|r
  · exact hx b n r
  · rw[n] at r;cases r
 have hm:∀b u,H b=some u->¬Mut (some u)->b≠x:=fun b u q nm z=>by subst z;rw[q] at mu;exact nm mu
 refine⟨fun b u q n _ _=>k b u (hb b n) q,fun b u q n _ _=>⟨u.slots,k b u (hb b n) q⟩,fun b u q n _=>by rw[c9 (hx b n)];exact n,fun b u q _=>?_,
  fun b xs q=>by rw[c9 (hm b _ q fun z=>z)];exact q,fun b u xs q=>by rw[c9 (hm b _ q fun z=>z)];exact q,fun b ps q=>⟨#[],by rw[c9 (hm b _ q fun z=>z),q];simp⟩⟩
 by_cases hbe:b=e
 · subst hbe;exact heo
 · exact⟨u,k b u hbe q⟩
end
noncomputable def trk(h:Heap)(H:Hp):List Addr:=(List.range h.objs.size).filter fun a=>(H a).isSome
def a5a(h:Heap)(H:Hp):Heap:=PySem.W.hideAll h (trk h H)
theorem a9p(h:Heap)(H:Hp):(a5a h H).objs.size=h.objs.size:=PySem.W.hideAll_size _ _
theorem b1A{o:Obj}(e:h.get? b=some o)(n:H b=none):(a5a h H).get? b=some o:=
 PySem.W.hideAll_get _ e fun hm=>by
  have q:(H b).isSome=true:=(bq.mp hm).2
  rw[n] at q;simp at q
theorem b3K{o:Obj}(e:(a5a h H).get? b=some o):h.get? b=some o/\H b=none:=by
 have e':h.get? b=some o:=PySem.W.of_hideAll (trk h H) e
 refine⟨e',?_⟩
 cases q:H b with
 |none=>rfl
 |some x=>
  have hm:b∈trk h H:=bq.mpr ⟨aO.mpr (Heap.lt_size e'),by simp[q]⟩
  have z:(a5a h H).get? b=none:=PySem.W.hideAll_none (trk h H) hm
  rw[z] at e;cases e
noncomputable def b4W(g h:Heap)(L:Addr):List (Addr×Obj):=(List.range h.objs.size).filterMap fun a=>if a=L∨(g.get? a).isSome=true then none else(h.get? a).map fun o=>(a,o)
variable{g:Heap}{L:Addr}
def d9(g h:Heap)(L d:Addr):List (Addr×Obj):=(b4W g h L).filter fun p=>decide (p.1≠d)
variable{d:Addr}{h':Heap}{m:Str->Option Value}
structure Mod(K:PySem.W.Frag)(mg:Str->Option Value)(base:Heap):Prop where
 kin:K.In base
 glob:base.Ns mainGlobals mg
 blt:∃mb,base.Ns builtinsNs mb/\∀x:Str,x≠"__name__"->mb x=bootBuiltins x
 nolimit:base.NoLimit
structure Cx where
 prog:Program
 w:World
 K:PySem.W.Frag
 mg:Str->Option Value
 base:Heap
 A:Around
 N:List Str
 s₀:Shared
 H₀:Hp
 env:Env
 outer:List Env
 stack:List Env
 ex:List Addr
 fn:Str->Bool
 calm:Bool
 pn:List (Addr×Obj)
 xe:Value->Shared->Prop
noncomputable def frs(l:List Env):List Addr:=l.filterMap (·.frame)
abbrev Cx.fs(X:Cx):List Addr:=frs X.outer
def Vis(sc:Scope)(x:Str):Prop:=sc.names.lookup x=some .local∨sc.names.lookup x=some .cell∨sc.names.lookup x=some .free
def Loc(sc:Scope)(x:Str):Prop:=sc.names.lookup x=some .local∨sc.names.lookup x=some .cell
def c1S(env:Env)(h:Heap)(m:Str->Option Value)(x:Str)(u:Value):Prop:=
 (env.kindOf x=some .local/\m x=some u)∨((env.kindOf x=some .cell∨env.kindOf x=some .free)/\∃c,env.cells.lookup x=some c/\h.IsCell c (some u))
structure Cx.Ok(X:Cx):Prop where
 mod:Mod X.K X.mg X.base
 kind:X.env.scope.kind=.function
 glob:X.env.globals=mainGlobals
 blt:X.env.builtins=builtinsNs
 above:X.s₀.heap.objs.size<=X.env.locals
 inj:∀x y c,X.env.cells.lookup x=some c->X.env.cells.lookup y=some c->x=y
 has:∀x,(X.env.kindOf x=some .cell∨X.env.kindOf x=some .free)->∃c,X.env.cells.lookup x=some c
 cab:∀x c,X.fn x=true->X.env.cells.lookup x=some c->X.s₀.heap.objs.size<=c
 hd:X.calm=true->X.A.handled=none
 frames:X.A.frames=some X.stack
 stk:X.stack=X.outer∨(X.stack=X.env::X.outer/\X.env.frame=some X.env.locals)
 exf:∀b∈X.ex,b≠X.env.locals/\∀x c,X.env.cells.lookup x=some c->c≠b
 bs:∀b o,X.base.get? b=some o->X.s₀.heap.get? b=some o/\X.H₀ b=none
 bsz:X.base.objs.size<=X.s₀.heap.objs.size
 noex:∀b o,X.base.get? b=some o->b∉X.ex
 exfs:∀b∈X.ex,b∉X.fs
 funs:X.s₀.heap.FunFrames X.base X.outer
 frf:∀b∈X.fs,X.H₀ b=none
structure Inv(X:Cx)(pins:List (Addr×Obj))(σ:List (Option V))(H:Hp)(s:Shared):Prop where
 ok:X.Ok
 os:s.os=X.s₀.os
 bare:AllBare s.gens
 base:Un X.fs X.ex X.H₀ H X.s₀.heap s.heap
 loc:∃m,s.heap.Ns X.env.locals m/\∀(i:Nat) (x:Str) (v:V),X.N[i]? =some x->σ[i]? =some (some v)->Vis X.env.scope x->∃u,f6 v u/\c1S X.env s.heap m x u
 cell:∀x c,X.env.cells.lookup x=some c->∃v,s.heap.IsCell c v
 free:H X.env.locals=none
 freeC:∀x c,X.env.cells.lookup x=some c->H c=none
 pin:∀p∈X.pn++pins,s.heap.get? p.1=some p.2/\H p.1=none/\p.1≠X.env.locals/\p.1∉X.fs/\∀v,p.2.data≠.cell v
 hok:HOk X.prog X.w H s.heap
 len:σ.length=X.N.length
variable{g':Array GenState}{ch:List Addr}{it:Addr}{N:List Str}{j:Nat}{x:Str}{M:Model}{A:Around}{v:V}{u:Value}{s':Shared}
section
variable{X:Cx}{pins:List (Addr×Obj)}{σ:List (Option V)}{H':Hp}{s:Shared}
theorem Cx.Ok.nofr(ok:X.Ok){o:Obj}(e:X.base.get? b=some o):b∉X.fs:=fun hb=>by
 have:=(ok.funs.mem hb).1
 rw[e] at this;cases this
theorem Inv.bs(I:Inv X pins σ H s):∀b o,X.base.get? b=some o->s.heap.get? b=some o/\H b=none:=fun b o e=>
 ⟨I.base.keep b o (I.ok.bs b o e).1 (I.ok.bs b o e).2 (I.ok.nofr e) (I.ok.noex b o e),I.base.free b o (I.ok.bs b o e).1 (I.ok.bs b o e).2 (I.ok.noex b o e)⟩
theorem Inv.bk(I:Inv X pins σ H s):∀b o,X.base.get? b=some o->s.heap.get? b=some o:=fun b o e=>(I.bs b o e).1
theorem Inv.mod(I:Inv X pins σ H s):Mod X.K X.mg X.base:=I.ok.mod
theorem Inv.kIn(I:Inv X pins σ H s):X.K.In s.heap:=I.ok.mod.kin.keeps I.bk
theorem Inv.lt(I:Inv X pins σ H s):X.env.locals<s.heap.objs.size:=let⟨_,hn,_⟩:=I.loc;hn.lt
theorem Inv.sz(I:Inv X pins σ H s):X.s₀.heap.objs.size<=s.heap.objs.size:=aU I.ok.above (Nat.le_of_lt I.lt)
theorem Inv.nofs(I:Inv X pins σ H s)(h:s.heap.objs.size<=a):a∉X.fs:=fun hb=>by
 obtain⟨_,o,ho,_⟩:=I.ok.funs.mem hb;exact absurd (aC (Heap.lt_size ho) (aU I.sz h)) (aR _)
theorem Inv.cne(I:Inv X pins σ H s):∀x c,X.env.cells.lookup x=some c->c≠X.env.locals:=fun x c e z=>by
 obtain⟨v,o,ho,hd⟩:=I.cell x c e;obtain⟨m,⟨o',es,ep,ho',hd',_⟩,_⟩:=I.loc;rw[z,ho'] at ho;cases ho;rw[hd'] at hd;cases hd
theorem Inv.funs(I:Inv X pins σ H s):s.heap.FunFrames X.base X.outer:=by
 have all:∀(l:List Env),(∀b∈frs l,b∈X.fs)->X.s₀.heap.FunFrames X.base l->s.heap.FunFrames X.base l:=by
  intro l
  induction l with
  |nil=>intro _ _;trivial
  |cons env r ih=>
   intro hs hl;obtain⟨hk,⟨L,o,hf,hn,ho,hd⟩,hr⟩:=hl
   have hL:L∈X.fs:=hs L (by unfold frs;rw[List.filterMap_cons,hf];exact bf)
   obtain⟨sl,e⟩:=I.base.slot L o ho (I.ok.frf L hL) hL fun z=>I.ok.exfs L z hL
   exact⟨hk,⟨L,_,hf,hn,e,hd⟩,ih (fun b hb=>hs b (by unfold frs;rw[List.filterMap_cons,hf];exact aD _ hb)) hr⟩
 exact all X.outer (fun _ hb=>hb) I.ok.funs
theorem Inv.stack(I:Inv X pins σ H s):s.heap.FunFrames X.base X.stack:=by
 rcases I.ok.stk with e|⟨e,hf⟩
 · rw[e];exact I.funs
 · rw[e];obtain⟨m,hn,_⟩:=I.loc;refine .cons (by rw[I.ok.kind];decide) hf hn ?_ I.funs
   exact Heap.get?_none_of_le (aU I.ok.bsz I.ok.above)
theorem Inv.stkSub(I:Inv X pins σ H s):∀b∈frs X.stack,b∈X.env.locals::X.fs:=fun b hb=>by
 rcases I.ok.stk with e|⟨e,hf⟩
 · rw[e] at hb;exact aD _ hb
 · rw[e] at hb;unfold frs at hb;rw[List.filterMap_cons,hf] at hb;exact hb
theorem Inv.stkFree(I:Inv X pins σ H s):∀b∈frs X.stack,H b=none:=fun b hb=>by
 rcases aE.mp (I.stkSub b hb) with e|hb
 · rw[e];exact I.free
 · obtain⟨_,o,ho,_⟩:=I.ok.funs.mem hb;exact I.base.free b o ho (I.ok.frf b hb) fun z=>I.ok.exfs b z hb
theorem Inv.step{t':Nat}{d':Drawn}(I:Inv X pins σ H s)
 (hch:∀b∈ch,(b∈X.ex∨X.s₀.heap.objs.size<=b)/\b≠X.env.locals/\(∀x c,X.env.cells.lookup x=some c->c≠b)/\∀p∈X.pn++pins,p.1≠b)
 (keep:∀b o,b≠X.env.locals->b∉X.fs->b∉ch->s.heap.get? b=some o->H b=none->h'.get? b=some o)
 (slot:∀b o,b≠X.env.locals->b∈X.fs->b∉ch->s.heap.get? b=some o->H b=none->∃sl,h'.get? b=some {o with slots:=sl}) (free:∀b o,b∉ch->s.heap.get? b=some o->H b=none->H' b=none)
 (there:∀b o,b∉ch->s.heap.get? b=some o->∃o',h'.get? b=some o')
 (tups:∀b xs,H b=some (.tup xs)->H' b=some (.tup xs)) (frzs:∀b o u,H b=some (.frz o u)->H' b=some (.frz o u)) (tbls:∀b ps,H b=some (.tbl ps)->∃more,H' b=some (.tbl (ps++more)))
 (ns:∀m,s.heap.Ns X.env.locals m->h'.Ns X.env.locals m) (hok:HOk X.prog X.w H' h') (hg:AllBare g'):
 Inv X pins σ H' {s with heap:=h',gens:=g',drawn:=d',toks:=t'}:=by
 have neL:∀b o,X.s₀.heap.get? b=some o->b≠X.env.locals:=fun b o e=>Nat.ne_of_lt (aC (Heap.lt_size e) I.ok.above)
 have neC:∀b o,X.s₀.heap.get? b=some o->b∉X.ex->b∉ch:=fun b o e hx hb=>by
  rcases(hch b hb).1 with z|z
  · exact hx z
  · exact absurd (aC (Heap.lt_size e) z) (aR _)
 have cellK:∀x c,X.env.cells.lookup x=some c->∀v,s.heap.IsCell c v->h'.IsCell c v:=fun x c e v ⟨o,ho,hd⟩=>by
  have nch:c∉ch:=fun z=>(hch c z).2.2.1 x c e rfl
  by_cases hc:c∈X.fs
  · obtain⟨sl,q⟩:=slot c o (I.cne x c e) hc nch ho (I.freeC x c e);exact⟨_,q,hd⟩
  · exact⟨o,keep c o (I.cne x c e) hc nch ho (I.freeC x c e),hd⟩
 refine⟨I.ok,I.os,hg,⟨fun b o e n hb hx=>?_,fun b o e n hb hx=>?_,fun b o e n hx=>?_,fun b o e hx=>?_,fun b xs e=>tups b xs (I.base.tups b xs e),fun b o xs e=>frzs b o xs (I.base.frzs b o xs e),fun b ps e=>?_⟩,?_,fun x c e=>?_,?_,fun x c e=>?_,fun p hp=>?_,hok,I.len⟩
 · exact keep b o (neL b o e) hb (neC b o e hx) (I.base.keep b o e n hb hx) (I.base.free b o e n hx)
 · obtain⟨sl,e1⟩:=I.base.slot b o e n hb hx;obtain⟨sl',e2⟩:=slot b _ (neL b o e) hb (neC b o e hx) e1 (I.base.free b o e n hx);exact⟨sl',e2⟩
 · obtain⟨o',e1⟩:=I.base.there b o e hx;exact free b o' (neC b o e hx) e1 (I.base.free b o e n hx)
 · obtain⟨o',e1⟩:=I.base.there b o e hx;exact there b o' (neC b o e hx) e1
 · obtain⟨m1,e1⟩:=I.base.tbls b ps e;obtain⟨m2,e2⟩:=tbls b _ e1;exact⟨m1++m2,by rw[e2,Array.append_assoc]⟩
 · obtain⟨m,hn,hl⟩:=I.loc;refine⟨m,ns m hn,fun i x v e1 e2 e3=>?_⟩
   obtain⟨u,r,l⟩:=hl i x v e1 e2 e3;refine⟨u,r,?_⟩
   rcases l with l|⟨k,c,e,z⟩
   · exact .inl l
   · exact .inr ⟨k,c,e,cellK x c e _ z⟩
 · obtain⟨v,z⟩:=I.cell x c e;exact⟨v,cellK x c e v z⟩
 · obtain⟨m,⟨o,_,_,ho,_⟩,_⟩:=I.loc;exact free _ o (fun z=>(hch _ z).2.1 rfl) ho I.free
 · obtain⟨v,o,ho,hd⟩:=I.cell x c e;exact free c o (fun z=>(hch c z).2.2.1 x c e rfl) ho (I.freeC x c e)
 · obtain⟨e,n,ne,nf,d⟩:=I.pin p hp
   have nch:p.1∉ch:=fun z=>(hch p.1 z).2.2.2 p hp rfl
   exact⟨keep p.1 p.2 ne nf nch e n,free p.1 p.2 nch e n,ne,nf,d⟩
theorem Inv.un{t':Nat}(I:Inv X pins σ H s)(u:Un X.fs [] H H' s.heap h')(hok:HOk X.prog X.w H' h'):Inv X pins σ H' {s with heap:=h',toks:=t'}:=by
 obtain⟨m,⟨o,es,ep,ho,r⟩,_⟩:=id I.loc;obtain⟨sl,hL⟩:=u.any ho I.free (by simp)
 exact I.step (g':=s.gens) (d':=s.drawn) (ch:=[]) (fun _ z=>nomatch z) (fun b o _ hb _ e n=>u.keep b o e n hb (by simp)) (fun b o _ hb _ e n=>u.slot b o e n hb (by simp)) (fun b o _ e n=>u.free b o e n (by simp)) (fun b o _ e=>u.there b o e (by simp)) u.tups u.frzs u.tbls (fun m' hm=>by
  obtain⟨o',es',ep',ho',r'⟩:=hm;rw[ho] at ho';cases ho'
  exact⟨_,es',ep',hL,r'⟩) hok I.bare
theorem Inv.call{t':Nat}{d':Drawn}(I:Inv X pins σ H s)(u:Un (frs X.stack) ch H H' s.heap h')(hok:HOk X.prog X.w H' h')(hg:AllBare g')
 (hch:∀b∈ch,(b∈X.ex∨X.s₀.heap.objs.size<=b)/\b≠X.env.locals/\(∀x c,X.env.cells.lookup x=some c->c≠b)/\∀p∈X.pn++pins,p.1≠b):
 Inv X pins σ H' {s with heap:=h',gens:=g',drawn:=d',toks:=t'}:=by
 obtain⟨m,⟨o,es,ep,ho,r⟩,_⟩:=id I.loc;obtain⟨sl,hL⟩:=u.any ho I.free fun z=>(hch _ z).2.1 rfl
 exact I.step (ch:=ch) hch (fun b o hL hb hc e n=>u.keep b o e n (fun z=>(aE.mp (I.stkSub b z)).elim hL hb) hc) (fun b o _ _ hc e n=>u.any e n hc) (fun b o hc e n=>u.free b o e n hc) (fun b o hc e=>u.there b o e hc) u.tups u.frzs u.tbls (fun m' hm=>by
  obtain⟨o',es',ep',ho',r'⟩:=hm;rw[ho] at ho';cases ho'
  exact⟨_,es',ep',hL,r'⟩) hok hg
theorem Inv.turned{t':Nat}(I:Inv X pins σ H s)(k:∀b o,b≠it->s.heap.get? b=some o->h'.get? b=some o)(hn:H it=none)(hL:it≠X.env.locals)
 (h1:it∈X.ex∨X.s₀.heap.objs.size<=it) (h2:∀x c,X.env.cells.lookup x=some c->c≠it) (h3:∀p∈X.pn++pins,p.1≠it):Inv X pins σ H {s with heap:=h',toks:=t'}:=by
 have nit:∀b u,H b=some u->b≠it:=fun b u e z=>by rw[z,hn] at e;cases e
 refine I.step (g':=s.gens) (d':=s.drawn) (ch:=[it]) (fun b hb=>?_) (fun b o _ _ hc e _=>k b o (fun z=>hc (by simp[z])) e) (fun b o _ _ hc e _=>⟨o.slots,k b o (fun z=>hc (by simp[z])) e⟩) (fun _ _ _ _ n=>n)
  (fun b o hc e=>⟨o,k b o (fun z=>hc (by simp[z])) e⟩) (fun _ _ e=>e) (fun _ _ _ e=>e) (fun b ps e=>⟨#[],by rw[e];simp⟩) (fun m hm=>?_) (fun b u e=>?_) I.bare
 · have e:b=it:=by simpa using hb
   subst e;exact⟨h1,hL,h2,h3⟩
 · obtain⟨o,es,ep,ho,r⟩:=hm;exact⟨o,es,ep,k _ o (Ne.symm hL) ho,r⟩
 · refine(I.hok b u e).stay (fun c v hc q=>k c v ?_ q) (fun _ q=>q) fun _ _ q=>q
   rcases hc with z|z
   · rw[z];exact nit b u e
   · exact nit c _ z
theorem Inv.tok(I:Inv X pins σ H s)(t:Nat):Inv X pins σ H {s with toks:=t}:=I.un (h':=s.heap) (t':=t) Un.refl I.hok
theorem Inv.kept{t':Nat}(I:Inv X pins σ H s)(k:∀b u,s.heap.get? b=some u->h'.get? b=some u):Inv X pins σ H {s with heap:=h',toks:=t'}:=I.un (Un.kept k) (I.hok.kept k)
theorem Inv.laid{o:HO}{t':Nat}(I:Inv X pins σ H s)(k:∀b u,s.heap.get? b=some u->h'.get? b=some u)(hp:s.heap.objs.size<=a)(new:p0 X.prog X.w (upd H a o) h' a o):
 Inv X pins σ (upd H a o) {s with heap:=h',toks:=t'}:=I.un (Un.laid k hp (I.hok.fresh hp)) (I.hok.laid k hp new)
theorem Inv.write{x e:Addr}{o:HO}{t':Nat}(I:Inv X pins σ H s)(mu:Mut (H x))(he:e=x∨H e=some (.own x))(k:∀b u,b≠e->s.heap.get? b=some u->h'.get? b=some u)(heo:∃u,h'.get? e=some u)
 (new:p0 X.prog X.w (upd H x o) h' x o):Inv X pins σ (upd H x o) {s with heap:=h',toks:=t'}:=I.un (Un.write mu he k heo) (I.hok.write mu he k heo new)
theorem Inv.weak{σ':List (Option V)}(I:Inv X pins σ H s)(hl:σ'.length=σ.length)(w:∀(i:Nat) v,σ'[i]? =some (some v)->σ[i]? =some (some v)):Inv X pins σ' H s:=
 ⟨I.ok,I.os,I.bare,I.base,let⟨m,hn,hl'⟩:=I.loc;⟨m,hn,fun i x v e1 e2 e3=>hl' i x v e1 (w i v e2) e3⟩,I.cell,I.free,I.freeC,I.pin,I.hok,hl.trans I.len⟩
theorem Inv.pins_of{pins':List (Addr×Obj)}(I:Inv X pins σ H s)(h:∀p∈pins',s.heap.get? p.1=some p.2/\H p.1=none/\p.1≠X.env.locals/\p.1∉X.fs/\∀v,p.2.data≠.cell v):Inv X pins' σ H s:=
 ⟨I.ok,I.os,I.bare,I.base,I.loc,I.cell,I.free,I.freeC,fun p hp=>(aK.mp hp).elim (fun z=>I.pin p (List.mem_append_left _ z)) (h p),I.hok,I.len⟩
theorem a6a(hN:N.Nodup){i:Nat}(a:N[i]? =some x)(b:N[j]? =some x):i=j:=by
 obtain⟨h1,e1⟩:=ac.mp a
 obtain⟨h2,e2⟩:=ac.mp b
 exact(getElem_inj hN).mp (e1.trans e2.symm)
theorem a3C{E:Value->Shared->Prop}{i:Nat}{Q:Unit->Shared->Prop}(I:Inv X pins σ H s)(hN:X.N.Nodup)(hi:X.N[i]? =some x)(hx:Loc X.env.scope x)(r:f6 v u)
 (h:∀s',Inv X pins (σ.set i (some v)) H s'->(∃a,Heap.SameBut a s.heap s'.heap/\(a=X.env.locals∨X.env.cells.lookup x=some a))->Q () s') (hf:X.fn x=true∨X.env.scope.names.lookup x=some .local:=by first|exact .inl rfl|exact .inr rfl|assumption):wpAny M A (storeName X.env x u) Q E s:=by
 obtain⟨m,hn,hl⟩:=id I.loc
 have hcls:(X.env.scope.kind==.class||(X.env.scope.kind==.module&&X.env.locals !=X.env.globals))=false:=by rw[I.ok.kind];rfl
 have hiσ:i<σ.length:=by rw[I.len];exact(ac.mp hi).1
 have cne:=I.cne
 have tracked:∀{a:Addr} {h':Heap},(∃o,s.heap.get? a=some o/\H a=none)->Heap.SameBut a s.heap h'->HOk X.prog X.w H h':=fun{a h'} ha hs b ob e=>by
  obtain⟨_,_,hfree⟩:=ha;refine(I.hok b ob e).stay (fun c w' hc q=>(hs.2 c ?_).trans q) (fun _ q=>q) fun _ _ q=>q
  rintro rfl
  rcases hc with rfl|hc
  · rw[hfree] at e;cases e
  · rw[hfree] at hc;cases hc
 rcases hx with hk|hk
 · refine wpAny_storeName_local hk hn (fun h' hn' hs=>?_) hcls
   obtain⟨oL,_,_,hoL,_⟩:=id hn;refine h _ ⟨I.ok,I.os,I.bare,⟨fun b o e n hb hx=>?_,fun b o e n hb hx=>?_,I.base.free,fun b o e hx=>?_,I.base.tups,I.base.frzs,I.base.tbls⟩,⟨_,hn',fun j y v' e1 e2 e3=>?_⟩,fun y c e=>?_,I.free,I.freeC,fun p hp=>?_,tracked ⟨oL,hoL,I.free⟩ hs,by simpa using I.len⟩ ⟨_,hs,.inl rfl⟩
   · exact(hs.2 b (Nat.ne_of_lt (aC (Heap.lt_size e) I.ok.above))).trans (I.base.keep b o e n hb hx)
   · obtain⟨sl,e1⟩:=I.base.slot b o e n hb hx;exact⟨sl,(hs.2 b (Nat.ne_of_lt (aC (Heap.lt_size e) I.ok.above))).trans e1⟩
   · obtain⟨o',e1⟩:=I.base.there b o e hx;exact⟨o',(hs.2 b (Nat.ne_of_lt (aC (Heap.lt_size e) I.ok.above))).trans e1⟩
   · by_cases hj:j=i
     · subst hj;rw[hi] at e1;cases e1
       rw[List.getElem?_set_self hiσ] at e2
       cases e2;exact⟨u,r,.inl ⟨hk,by simp⟩⟩
     · rw[List.getElem?_set_ne (Ne.symm hj)] at e2
       obtain⟨u',r',q⟩:=hl j y v' e1 e2 e3;refine⟨u',r',?_⟩
       rcases q with⟨k,e⟩|⟨k,c,e,z⟩
       · refine .inl ⟨k,?_⟩
         have:y≠x:=fun e=>hj (a6a hN e1 (e▸hi))
         simp[this,e]
       · exact .inr ⟨k,c,e,z.sameBut hs (cne y c e)⟩
   · obtain⟨w',z⟩:=I.cell y c e;exact⟨w',z.sameBut hs (cne y c e)⟩
   · obtain⟨e,n,ne,nf,d⟩:=I.pin p hp;exact⟨(hs.2 p.1 ne).trans e,n,ne,nf,d⟩
 · have hfn:X.fn x=true:=by
    rcases hf with z|z
    · exact z
    · rw[z] at hk;cases hk
   obtain⟨c,hc⟩:=I.ok.has x (.inl hk);obtain⟨w',z⟩:=I.cell x c hc;refine wpAny_storeName_cell I.ok.kind hk hc z (fun h' hc' hs=>?_)
   obtain⟨oc,hoc,hocd⟩:=id z;refine h {s with heap:=h'} ⟨I.ok,I.os,I.bare,⟨fun b o e n hb hx=>?_,fun b o e n hb hx=>?_,I.base.free,fun b o e hx=>?_,I.base.tups,I.base.frzs,I.base.tbls⟩,⟨m,hn.sameBut hs (Ne.symm (cne x c hc)),fun j y v' e1 e2 e3=>?_⟩,fun y c' e=>?_,I.free,I.freeC,fun p hp=>?_,tracked ⟨oc,hoc,I.freeC x c hc⟩ hs,by simpa using I.len⟩ ⟨c,hs,.inr hc⟩
   · exact(hs.2 b (Nat.ne_of_lt (aC (Heap.lt_size e) (I.ok.cab x c hfn hc)))).trans (I.base.keep b o e n hb hx)
   · obtain⟨sl,e1⟩:=I.base.slot b o e n hb hx;exact⟨sl,(hs.2 b (Nat.ne_of_lt (aC (Heap.lt_size e) (I.ok.cab x c hfn hc)))).trans e1⟩
   · obtain⟨o',e1⟩:=I.base.there b o e hx;exact⟨o',(hs.2 b (Nat.ne_of_lt (aC (Heap.lt_size e) (I.ok.cab x c hfn hc)))).trans e1⟩
   · by_cases hj:j=i
     · subst hj;rw[hi] at e1;cases e1
       rw[List.getElem?_set_self hiσ] at e2
       cases e2;exact⟨u,r,.inr ⟨.inl hk,c,hc,hc'⟩⟩
     · rw[List.getElem?_set_ne (Ne.symm hj)] at e2
       obtain⟨u',r',q⟩:=hl j y v' e1 e2 e3;refine⟨u',r',?_⟩
       rcases q with q|⟨k,c',e,z'⟩
       · exact .inl q
       · refine .inr ⟨k,c',e,z'.sameBut hs ?_⟩
         rintro rfl;exact hj (a6a hN e1 (I.ok.inj _ _ _ e hc▸hi))
   · by_cases hcc:c'=c
     · subst hcc;exact⟨_,hc'⟩
     · obtain⟨w2,z2⟩:=I.cell y c' e;exact⟨w2,z2.sameBut hs hcc⟩
   · obtain⟨e,n,ne,nf,d⟩:=I.pin p hp;refine⟨(hs.2 p.1 ?_).trans e,n,ne,nf,d⟩
     intro q;rw[q,hoc] at e
     have q':oc=p.2:=ax e
     exact d w' (by rw[←q'];exact hocd)
theorem a5K{E:Value->Shared->Prop}{i:Nat}{Q:Unit->Shared->Prop}(I:Inv X pins σ H s)(hN:X.N.Nodup)(hi:X.N[i]? =some x)(hx:Loc X.env.scope x)(r:f6 v u)
 (h:∀s',Inv X pins (σ.set i (some v)) H s'->Q () s') (hf:X.fn x=true∨X.env.scope.names.lookup x=some .local:=by first|exact .inl rfl|exact .inr rfl|assumption):wpAny M A (storeName X.env x u) Q E s:=
 a3C I hN hi hx r (fun s' I' _=>h s' I') hf
theorem Inv.call'(I:Inv X pins σ H s)(ho:s'.os=s.os)(u:Un (frs X.stack) ch H H' s.heap s'.heap)(hok:HOk X.prog X.w H' s'.heap)(hg:AllBare s'.gens)
 (hch:∀b∈ch,(b∈X.ex∨X.s₀.heap.objs.size<=b)/\b≠X.env.locals/\(∀x c,X.env.cells.lookup x=some c->c≠b)/\∀p∈X.pn++pins,p.1≠b):Inv X pins σ H' s':=by
 obtain⟨h',g',d',t',o'⟩:=s'
 have e:o'=s.os:=ho
 subst e;exact I.call (g':=g') (t':=t') (d':=d') u hok hg hch
end
abbrev XK:=Value->Option Addr->Hp->Prop
abbrev St:=List (Option V)
abbrev VK:=V->Hp->Prop
abbrev TE:=St->Hp->VK->Prop
abbrev TT:=St->Hp->(Bool->Hp->Prop)->Prop
abbrev TA:=St->Hp->(List V->Hp->Prop)->Prop
structure Ends where
 nx:St->Hp->Prop
 rt:VK
 bk:St->Hp->Prop:=fun _ _=>False
 ct:St->Hp->Prop:=fun _ _=>False
abbrev TS:=Ends->St->Hp->Prop
def EP(X:Cx)(pins:List (Addr×Obj))(σ:St)(Q:VK)(u:Value)(s':Shared):Prop:=∃v H',Inv X pins σ H' s'/\f6 v u/\Q v H'
def TP(X:Cx)(pins:List (Addr×Obj))(σ:St)(Q:Bool->Hp->Prop)(b:Bool)(s':Shared):Prop:=∃H',Inv X pins σ H' s'/\Q b H'
def AP(X:Cx)(pins:List (Addr×Obj))(σ:St)(Q:List V->Hp->Prop)(us:List Value)(s':Shared):Prop:=∃vs H',Inv X pins σ H' s'/\i7 vs us/\Q vs H'
def SP(X:Cx)(pins:List (Addr×Obj))(D:Ends)(f:Flow)(s':Shared):Prop:=
 match f with
 |.next=>∃σ' H',Inv X pins σ' H' s'/\D.nx σ' H'
 |.brk=>∃σ' H',Inv X pins σ' H' s'/\D.bk σ' H'
 |.cont=>∃σ' H',Inv X pins σ' H' s'/\D.ct σ' H'
 |.ret u=>∃v σ' H',Inv X pins σ' H' s'/\f6 v u/\D.rt v H'
def PE(X:Cx)(e:Expr)(t:TE):Prop:=
 ∀(pins:List (Addr×Obj)) (s:Shared) (σ:St) (H:Hp) (Q:VK),Inv X pins σ H s->t σ H Q->wpAny (model X.prog X.w) X.A (eval e X.env) (EP X pins σ Q) X.xe s
def PT(X:Cx)(e:Expr)(t:TT):Prop:=
 ∀(pins:List (Addr×Obj)) (s:Shared) (σ:St) (H:Hp) (Q:Bool->Hp->Prop),Inv X pins σ H s->t σ H Q->wpAny (model X.prog X.w) X.A (isTrue e X.env (eval e X.env)) (TP X pins σ Q) X.xe s
def PW(X:Cx)(e:Expr)(t:TT):Prop:=
 ∀(whole:Sem Value) (pins:List (Addr×Obj)) (s:Shared) (σ:St) (H:Hp) (Q:Bool->Hp->Prop),Inv X pins σ H s->t σ H Q->wpAny (model X.prog X.w) X.A (isTrue e X.env whole) (TP X pins σ Q) X.xe s
variable{X:Cx}{e:Expr}
theorem PW.pt{t:TT}(h:PW X e t):PT X e t:=h _
def PA(X:Cx)(es:List Expr)(t:TA):Prop:=
 ∀(pos:Pos) (pins:List (Addr×Obj)) (s:Shared) (σ:St) (H:Hp) (Q:List V->Hp->Prop),Inv X pins σ H s->t σ H Q->wpAny (model X.prog X.w) X.A (spliced (backTo pos (starEach es X.env))) (AP X pins σ Q) X.xe s
def PS(X:Cx)(st:Stmt)(t:TS):Prop:=
 ∀(pins:List (Addr×Obj)) (s:Shared) (σ:St) (H:Hp) (D:Ends),Inv X pins σ H s->t D σ H->wpAny (model X.prog X.w) X.A (exec st X.env) (SP X pins D) X.xe s
def PSs(X:Cx)(st:List Stmt)(t:TS):Prop:=
 ∀(pins:List (Addr×Obj)) (s:Shared) (σ:St) (H:Hp) (D:Ends),Inv X pins σ H s->t D σ H->wpAny (model X.prog X.w) X.A (execs st X.env) (SP X pins D) X.xe s
theorem thn{t:Sem α}{Q Q':α->Shared->Prop}{E:Value->Shared->Prop}{s:Shared}(h:wpAny M A t Q E s)(hQ:∀a s,Q a s->Q' a s):wpAny M A t Q' E s:=wpAny_mono h hQ fun _ _ x=>x
variable{pins:List (Addr×Obj)}{σ:St}{pos:Pos}{Q:Value->Shared->Prop}{op:CmpOp}{c:Expr}
section
theorem bin{a b:Expr}{ta tb:TE}(ha:PE X a ta)(hb:PE X b tb){s:Shared}{R:V->V->Hp->Prop}(I:Inv X pins σ H s)(h:ta σ H fun x H1=>tb σ H1 fun y H2=>R x y H2)
 {Q :α->Shared->Prop} {f:Value->Value->Sem α}
    (hf:∀v u s2 x y H2,Inv X pins σ H2 s2->f6 x v->f6 y u->R x y H2->wpAny (model X.prog X.w) X.A (f v u) Q X.xe s2):
    wpAny (model X.prog X.w) X.A (eval a X.env) (fun v s₁=>wpAny (model X.prog X.w) X.A (eval b X.env) (fun u s₂=>wpAny (model X.prog X.w) X.A (f v u) Q X.xe s₂) X.xe s₁) X.xe s:=by
  refine thn (ha pins s σ H _ I h) fun v s1 zz=>?_
  obtain⟨x,H1,I1,r1,q1⟩:=zz;refine thn (hb pins s1 σ H1 _ I1 q1) fun u s2 zz=>?_
  obtain⟨y,H2,I2,r2,q2⟩:=zz;exact hf v u s2 x y H2 I2 r1 r2 q2
noncomputable def c0u(i:Nat):TE:=fun σ H Q=>∃v,σ[i]? =some (some v)/\Q v H
def tC(v:V):TE:=fun _ H Q=>Q v H
theorem b6c{i:Nat}(hN:X.N[i]? =some x)(hv:Vis X.env.scope x)(hd:(x==("__debug__":Str))=false:=by decide)(hcd:(x==("__classdict__":Str))=false:=by decide):PE X (.Name x pos) (c0u i):=by
 intro pins s σ H Q I h;obtain⟨v,e,h⟩:=h;obtain⟨m,hn,hl⟩:=I.loc;obtain⟨u,r,l⟩:=hl i x v hN e hv
 have fin:EP X pins σ Q u s:=⟨v,H,I,r,h⟩
 rcases l with⟨hk,hm⟩|⟨hk,c,hc,hcell⟩
 · exact wpAny_Name (wpAny_loadName_local I.ok.kind hk hn hm fin) hd
 · rcases hk with hk|hk
   · exact wpAny_Name (wpAny_loadName_cell I.ok.kind hk hc hcell fin) hd
   · exact wpAny_Name (wpAny_loadName_free I.ok.kind hk hc hcell fin hcd) hd
theorem a6S{i j pos}:PE X (.Constant (.int i) j pos) (tC (.int i)):=fun _ _ _ H _ I h=>wpAny_Constant_int ⟨.int i,H,I.tok _,⟨_,rfl⟩,h⟩
theorem b8D{b j pos}:PE X (.Constant (.bool b) j pos) (tC (.bl b)):=fun _ _ _ H _ I h=>Constant_bool ⟨.bl b,H,I,rfl,h⟩
theorem b6h{j pos}:PE X (.Constant .none j pos) (tC .non):=fun _ _ _ H _ I h=>Constant_none ⟨.non,H,I,rfl,h⟩
theorem b0L{x j pos}:PE X (.Constant (.str x) j pos) (tC (.str x)):=fun _ _ _ H _ I h=>Calls.Constant_str ⟨.str x,H,I.tok _,⟨_,rfl⟩,h⟩
def Gl(X:Cx)(x:Str):Prop:=X.env.kindOf x=some .globalImplicit
theorem a4R{E:Value->Shared->Prop}{s:Shared}(I:Inv X pins σ H s)(hg:Gl X x)(hm:X.mg x=some u)(h:Q u s)
 (hd:(x==("__debug__":Str))=false:=by decide):wpAny (model X.prog X.w) X.A (eval (.Name x pos) X.env) Q E s:=
 Calls.Name_function_global I.ok.kind hg (Calls.loadGlobal_global (by rw[I.ok.glob];exact I.mod.glob.keeps I.bk) hm h) hd
theorem W4{E:Value->Shared->Prop}{s:Shared}(I:Inv X pins σ H s)(hg:Gl X x)(hm:X.mg x=none)(hv:bootBuiltins x=some u)(h:Q u s)
 (hn:x≠"__name__":=by decide) (hd:(x==("__debug__":Str))=false:=by decide):wpAny (model X.prog X.w) X.A (eval (.Name x pos) X.env) Q E s:=by
 obtain⟨mb,h1,h2⟩:=I.mod.blt;exact Calls.Name_function_global I.ok.kind hg (Calls.loadGlobal_builtin (by rw[I.ok.glob];exact I.mod.glob.keeps I.bk) hm (by rw[I.ok.blt];exact h1.keeps I.bk) ((h2 x hn).trans hv) h) hd
theorem a1f(hg:Gl X x)(hm:X.mg x=some u)(r:f6 v u)(hd:(x==("__debug__":Str))=false:=by decide):PE X (.Name x pos) (tC v):=
 fun _ _ _ H _ I h=>a4R I hg hm ⟨v,H,I,r,h⟩ hd
theorem b3C(hg:Gl X x)(hm:X.mg x=none)(hv:bootBuiltins x=some u)(r:f6 v u)(hn:x≠"__name__":=by decide)(hd:(x==("__debug__":Str))=false:=by decide):PE X (.Name x pos) (tC v):=
 fun _ _ _ H _ I h=>W4 I hg hm hv ⟨v,H,I,r,h⟩ hn hd
variable{a b:Expr}{ta tb:TE}
def PC(X:Cx)(op:CmpOp)(a b:Expr)(t:TE):Prop:=
 ∀(pins:List (Addr×Obj)) (s:Shared) (σ:St) (H:Hp) (Q:VK),Inv X pins σ H s->t σ H Q→
  wpAny (model X.prog X.w) X.A (eval a X.env) (fun v s₁=>wpAny (model X.prog X.w) X.A (eval b X.env) (fun u s₂=>wpAny (model X.prog X.w) X.A (compareOp op v u) (EP X pins σ Q) X.xe s₂) X.xe s₁) X.xe s
theorem a6b(b:Expr)(h:op≠.In)(h2:op≠.NotIn):behindInMarks op b=false:=by
 have e1:(op==CmpOp.In)=false:=by cases op<;>first|rfl|exact absurd rfl h
 have e2:(op==CmpOp.NotIn)=false:=by cases op<;>first|rfl|exact absurd rfl h2
 cases b<;>simp[behindInMarks,e1,e2]
noncomputable def c0C(ta:TE):TE:=fun σ H Q=>ta σ H fun x H1=>Q (.bl (decide (x=.non))) H1
noncomputable def b8c(ta:TE):TE:=fun σ H Q=>ta σ H fun x H1=>Q (.bl (!decide (x=.non))) H1
theorem f6.none_iff{x:V}{v:Value}(r:f6 x v):(v==Value.none)=decide (x=.non):=by
 cases x with
 |non=>cases r;rfl
 |bl _=>cases r;rfl
 |int _=>obtain⟨t,rfl⟩:=r;rfl
 |str _=>obtain⟨t,rfl⟩:=r;rfl
 |byt _=>obtain⟨t,rfl⟩:=r;rfl
 |flt _=>obtain⟨t,rfl⟩:=r;rfl
 |ref _=>cases r;rfl
 |ty _=>cases r;rfl
theorem b0T{j pos'}(ha:PE X a ta):PC X .Is a (.Constant .none j pos') (c0C ta):=by
 intro pins s σ H Q I h;refine thn (ha pins s σ H _ I h) fun v s1 zz=>?_
 obtain⟨x,H1,I1,r1,q1⟩:=zz;exact Constant_none (is_none_gen ⟨.bl _,H1,I1,by rw[r1.none_iff];rfl,q1⟩)
theorem a7U{j pos'}(ha:PE X a ta):PC X .IsNot a (.Constant .none j pos') (b8c ta):=by
 intro pins s σ H Q I h;refine thn (ha pins s σ H _ I h) fun v s1 zz=>?_
 obtain⟨x,H1,I1,r1,q1⟩:=zz;exact Constant_none (isnot_none_gen ⟨.bl _,H1,I1,by rw[r1.none_iff];rfl,q1⟩)
noncomputable def tB(t:TE):TT:=fun σ H Q=>t σ H fun x H1=>∃c,x=.bl c/\Q c H1
theorem b0R{t:TE}(h:PC X op a b t)(h1:behindInMarks op b=false:=by first|exact a6b _ (by decide) (by decide)|rfl):PE X (.Compare a [op] [b] pos) t:=fun pins s σ H Q I hw=>wpAny_Compare1 (h pins s σ H Q I hw) h1
theorem b0z{t:TE}(h:PC X op a b t)(h1:behindInMarks op b=false:=by first|exact a6b _ (by decide) (by decide)|rfl):PT X (.Compare a [op] [b] pos) (tB t):=by
 intro pins s σ H Q I hw;refine wpAny_isTrue_Compare1 (thn (h pins s σ H _ I hw) fun v s1 h1=>thn h1 fun u s2 h2=>thn h2 fun c s3 zz=>?_) h1
 obtain⟨x,H1,I1,r1,q1⟩:=zz;obtain⟨d,rfl,q⟩:=q1;cases r1;exact wpAny_truthy_bool ⟨H1,I1,q⟩
variable{tA tB':TT}{d9:List Expr}
noncomputable def c0G(t u:TT):TT:=fun σ H Q=>t σ H fun c H1=>if c=true then u σ H1 Q else Q false H1
noncomputable def tOr(t u:TT):TT:=fun σ H Q=>t σ H fun c H1=>if c=true then Q true H1 else u σ H1 Q
noncomputable def c0A(t:TT):TT:=fun σ H Q=>t σ H fun c H1=>Q (!c) H1
theorem b3k(ha:PT X a tA):PW X (.BoolOp .And [a] pos) tA:=by
 intro wh pins s σ H Q I h;refine isTrue_and (thn (ha pins s σ H Q I h) fun c s1 e=>?_)
 cases c with
 |true=>exact isTrue_and_nil e
 |false=>exact e
theorem b5L(ha:PT X a tA):PW X (.BoolOp .Or [a] pos) tA:=by
 intro wh pins s σ H Q I h;refine isTrue_or (thn (ha pins s σ H Q I h) fun c s1 e=>?_)
 cases c with
 |false=>exact isTrue_or_nil e
 |true=>exact e
theorem b5M(ha:PT X a tA)(hb:PW X (.BoolOp .And (b::d9) pos) tB'):PW X (.BoolOp .And (a::b::d9) pos) (c0G tA tB'):=by
 intro wh pins s σ H Q I h;refine isTrue_and (thn (ha pins s σ H _ I h) fun c s1 zz=>?_)
 obtain⟨H1,I1,q1⟩:=zz
 cases c with
 |true=>exact hb wh pins s1 σ H1 Q I1 q1
 |false=>exact⟨H1,I1,q1⟩
theorem b8x(ha:PT X a tA)(hb:PW X (.BoolOp .Or (b::d9) pos) tB'):PW X (.BoolOp .Or (a::b::d9) pos) (tOr tA tB'):=by
 intro wh pins s σ H Q I h;refine isTrue_or (thn (ha pins s σ H _ I h) fun c s1 zz=>?_)
 obtain⟨H1,I1,q1⟩:=zz
 cases c with
 |true=>exact⟨H1,I1,q1⟩
 |false=>exact hb wh pins s1 σ H1 Q I1 q1
theorem b5Q(ha:PT X a tA):PT X (.UnaryOp .Not a pos) (c0A tA):=by
 intro pins s σ H Q I h;exact isTrue_not (ha pins s σ H (fun c H1=>Q (!c) H1) I h)
noncomputable def b8i(ta tb:TE):TE:=fun σ H Q=>ta σ H fun x H1=>∃c,x=.bl c/\if c=true then tb σ H1 Q else Q (.bl false) H1
noncomputable def c0z(ta tb:TE):TE:=fun σ H Q=>ta σ H fun x H1=>∃c,x=.bl c/\if c=true then Q (.bl true) H1 else tb σ H1 Q
noncomputable def b8b(ta:TE):TE:=fun σ H Q=>ta σ H fun x H1=>∃c,x=.bl c/\Q (.bl (!c)) H1
theorem b6f{op}{t:TE}(h:PE X a t):PE X (.BoolOp op [a] pos) t:=fun pins s σ H Q I hw=>BoolOp_one (h pins s σ H Q I hw)
theorem b6k(ha:PE X a ta)(hb:PE X (.BoolOp .And (b::d9) pos) tb):PE X (.BoolOp .And (a::b::d9) pos) (b8i ta tb):=by
 intro pins s σ H Q I h;refine BoolOp_and (thn (ha pins s σ H _ I h) fun v s1 zz=>?_)
 obtain⟨x,H1,I1,r1,q1⟩:=zz;obtain⟨c,rfl,q1⟩:=q1;cases r1;refine wpAny_truthy_bool ?_
 cases c with
 |true=>exact hb pins s1 σ H1 Q I1 q1
 |false=>exact⟨.bl false,H1,I1,rfl,q1⟩
theorem b8B(ha:PE X a ta)(hb:PE X (.BoolOp .Or (b::d9) pos) tb):PE X (.BoolOp .Or (a::b::d9) pos) (c0z ta tb):=by
 intro pins s σ H Q I h;refine BoolOp_or (thn (ha pins s σ H _ I h) fun v s1 zz=>?_)
 obtain⟨x,H1,I1,r1,q1⟩:=zz;obtain⟨c,rfl,q1⟩:=q1;cases r1;refine wpAny_truthy_bool ?_
 cases c with
 |false=>exact hb pins s1 σ H1 Q I1 q1
 |true=>exact⟨.bl true,H1,I1,rfl,q1⟩
theorem b6g(ha:PE X a ta):PE X (.UnaryOp .Not a pos) (b8b ta):=by
 intro pins s σ H Q I h;refine UnaryOp_ (thn (ha pins s σ H _ I h) fun v s1 zz=>?_)
 obtain⟨x,H1,I1,r1,q1⟩:=zz;obtain⟨c,rfl,q1⟩:=q1;cases r1;exact not_of (wpAny_truthy_bool ⟨.bl (!c),H1,I1,rfl,q1⟩)
noncomputable def tIf(t:TT)(ta tb:TE):TE:=fun σ H Q=>t σ H fun c H1=>if c=true then ta σ H1 Q else tb σ H1 Q
theorem b0O(hc:PT X c tA)(ha:PE X a ta)(hb:PE X b tb):PE X (.IfExp c a b pos) (tIf tA ta tb):=by
 intro pins s σ H Q I h;refine wpAny_IfExp (thn (hc pins s σ H _ I h) fun d s1 zz=>?_)
 obtain⟨H1,I1,q1⟩:=zz
 cases d with
 |true=>exact ha pins s1 σ H1 Q I1 q1
 |false=>exact hb pins s1 σ H1 Q I1 q1
end
def SqL(K:PySem.W.Frag)(H:Hp)(a:Addr)(xs:List V):Prop:=
 Rd H a (.lst xs)∨
  ∃(o:Obj) (its:Array Value) (n:Nat),K.lookup a=some o/\o.cls=.type "list"/\o.dict=none/\o.data=.seq its n/\its.size<=sizeLine/\i7 xs its.toList
def SqT(K:PySem.W.Frag)(H:Hp)(a:Addr)(xs:List V):Prop:=
 Rd H a (.tup xs)∨
  ∃(o:Obj) (its:Array Value) (n:Nat),K.lookup a=some o/\o.cls=.type "tuple"/\o.data=.seq its n/\its.size<=sizeLine/\i7 xs its.toList
noncomputable def c1o:Value->Option V
 |.none=>some .non
 |.bool b=>some (.bl b)
 |.int i _=>some (.int i)
 |.str x _=>some (.str x)
 |.bytes b _=>some (.byt b)
 |.float b _=>some (.flt b)
 |.ref a=>~~~a
 |.type n=>some (.ty n)
 |_=>none
theorem f6.abs{x:V}(r:f6 x u):c1o u=some x:=by
 cases x with
 |non=>cases r;rfl
 |bl _=>cases r;rfl
 |int _=>obtain⟨t,rfl⟩:=r;rfl
 |str _=>obtain⟨t,rfl⟩:=r;rfl
 |byt _=>obtain⟨t,rfl⟩:=r;rfl
 |flt _=>obtain⟨t,rfl⟩:=r;rfl
 |ref _=>cases r;rfl
 |ty _=>cases r;rfl
variable{y:V}
theorem f6.inj{x:V}(r:f6 x u)(q:f6 y u):x=y:=ax (r.abs.symm.trans q.abs)
theorem i7.inj:∀{xs ys:List V} {us:List Value},i7 xs us->i7 ys us->xs=ys
 |_,_,_,.nil,.nil=>rfl
 |_,_,_,.cons r t,.cons r' t'=>by rw[r.inj r',i7.inj t t']
variable{K:PySem.W.Frag}
section
variable{s:Shared}{xs ys:List V}
theorem Inv.list(I:Inv X pins σ H s)(h:SqL X.K H a xs):∃its:List Value,i7 xs its/\PlainL s.heap a its.toArray/\xs.length<=sizeLine:=by
 rcases h with h|⟨o,its,n,hk,hc,hd,hs,hz,r⟩
 · obtain⟨z,its,n,r,e⟩:=h.ok I.hok;exact⟨its,r,⟨_,n,e,rfl,rfl,rfl⟩,z⟩
 · refine⟨its.toList,r,⟨o,n,I.kIn a o hk,hc,hd,by simpa using hs⟩,?_⟩
   have e:=r.length;simp only[Array.length_toList] at e;omega
theorem Inv.tuple(I:Inv X pins σ H s)(h:SqT X.K H a xs):∃its:List Value,i7 xs its/\IsTup s.heap a its.toArray/\xs.length<=sizeLine:=by
 rcases h with h|⟨o,its,n,hk,hc,hs,hz,r⟩
 · obtain⟨z,its,r,p⟩:=h.ok I.hok;exact⟨its,r,p.tup,z⟩
 · refine⟨its.toList,r,⟨o,I.kIn a o hk,hc,n,by simpa using hs⟩,?_⟩
   have e:=r.length;simp only[Array.length_toList] at e;omega
theorem Inv.list_inj(I:Inv X pins σ H s)(h:SqL X.K H a xs)(h':SqL X.K H a ys):xs=ys:=by
 obtain⟨its,r,⟨o,n,e,_,_,d⟩,_⟩:=I.list h;obtain⟨its',r',⟨o',n',e',_,_,d'⟩,_⟩:=I.list h';rw[e] at e';cases e'
 rw[d] at d'
 injection d' with d1 _
 have:its=its':=by simpa using congrArg Array.toList d1
 subst this;exact r.inj r'
theorem Inv.tuple_inj(I:Inv X pins σ H s)(h:SqT X.K H a xs)(h':SqT X.K H a ys):xs=ys:=by
 obtain⟨its,r,⟨o,e,_,n,d⟩,_⟩:=I.tuple h;obtain⟨its',r',⟨o',e',_,n',d'⟩,_⟩:=I.tuple h';rw[e] at e';cases e'
 rw[d] at d'
 injection d' with d1 _
 have:its=its':=by simpa using congrArg Array.toList d1
 subst this;exact r.inj r'
end
variable{tc:TT}
section
variable{st:Stmt}{d9:List Stmt}{t u:TS}{te:TE}
def b8d:TS:=fun D σ H=>D.nx σ H
noncomputable def c0w(t u:TS):TS:=fun D σ H=>t {D with nx:=u D} σ H
theorem b3m:PSs X [] b8d:=fun _ _ σ H _ I h=>wpAny_execs_nil ⟨σ,H,I,h⟩
theorem b0C(h1:PS X st t)(h2:PSs X d9 u):PSs X (st::d9) (c0w t u):=by
 intro pins s σ H D I h;refine wpAny_execs_cons (thn (h1 pins s σ H {D with nx:=u D} I h) fun f s1 q=>?_)
 cases f with
 |next=>
  obtain⟨σ',H',I',q⟩:=q;exact h2 pins s1 σ' H' D I' q
 |ret v=>exact q
 |brk=>exact q
 |cont=>exact q
theorem Inv.quiet{s:Shared}(I:Inv X pins σ H s):interactive X.env=false:=by simp[interactive,I.ok.kind]
noncomputable def b8f(te:TE):TS:=fun D σ H=>te σ H fun _ H1=>D.nx σ H1
theorem b3o(he:PE X e te)(hs:swapsWith e none pos.line X.env=pure false:=by rfl):PS X (.Expr e pos) (b8f te):=by
 intro pins s σ H D I h;exact wpAny_Expr_any (thn (he pins s σ H _ I h) fun v s1 ⟨x,H1,I1,r1,q1⟩=>⟨σ,H1,I1,q1⟩) I.quiet hs
noncomputable def c0y(te:TE):TS:=fun D σ H=>te σ H D.rt
theorem b5R(he:PE X e te):PS X (.Return (some e) pos) (c0y te):=by
 intro pins s σ H D I h;exact wpAny_Return_some (thn (he pins s σ H _ I h) fun v s1 ⟨x,H1,I1,r1,q1⟩=>⟨x,σ,H1,I1,r1,q1⟩)
noncomputable def c0D(c:TT)(t u:TS):TS:=fun D σ H=>c σ H fun b H1=>if b=true then t D σ H1 else u D σ H1
theorem b8z{a b:List Stmt}(hc:PT X c tc)(ha:PSs X a t)(hb:PSs X b u):PS X (.If c a b pos) (c0D tc t u):=by
 intro pins s σ H D I h;refine wpAny_If (thn (hc pins s σ H _ I h) fun d s1 zz=>?_)
 obtain⟨H1,I1,q1⟩:=zz
 cases d with
 |true=>exact ha pins s1 σ H1 D I1 q1
 |false=>exact hb pins s1 σ H1 D I1 q1
end
abbrev TG:=V->St->Hp->(St->Hp->Prop)->Prop
abbrev TGs:=List V->St->Hp->(St->Hp->Prop)->Prop
def PG(X:Cx)(target:Expr)(t:TG):Prop:=
 ∀(pins:List (Addr×Obj)) (s:Shared) (σ:St) (H:Hp) (v:V) (u:Value) (Q:St->Hp->Prop),Inv X pins σ H s->f6 v u->t v σ H Q→
  wpAny (model X.prog X.w) X.A (assign target X.env u) (fun _ s'=>∃σ' H',Inv X pins σ' H' s'/\Q σ' H') X.xe s
def PGs(X:Cx)(ts:List Expr)(t:TGs):Prop:=
 ∀(pins:List (Addr×Obj)) (s:Shared) (σ:St) (H:Hp) (vs:List V) (us:List Value) (Q:St->Hp->Prop),Inv X pins σ H s->i7 vs us->t vs σ H Q→
  wpAny (model X.prog X.w) X.A (assignInOrder ((assignEach ts X.env).map (·.2)) us) (fun _ s'=>∃σ' H',Inv X pins σ' H' s'/\Q σ' H') X.xe s
abbrev b7P:=V->V->V->Hp->(Hp->Prop)->Prop
def b7R(X:Cx)(t:b7P):Prop:=
 ∀(pins:List (Addr×Obj)) (s:Shared) (σ:St) (H:Hp) (o i v:V) (ov iv u:Value) (Q:Hp->Prop),Inv X pins σ H s->f6 o ov->f6 i iv->f6 v u->t o i v H Q→
  wpAny (model X.prog X.w) X.A (setItem ov iv u) (fun _ s'=>∃H',Inv X pins σ H' s'/\Q H') X.xe s
variable{n:Nat}{to:TE}{ti:TE}{tg:Expr}{te:TE}{pos':Pos}{ta:TA}
section
noncomputable def b1K(i:Nat):TG:=fun v σ H Q=>Q (σ.set i (some v)) H
theorem b3y{i:Nat}(hN:X.N.Nodup)(hi:X.N[i]? =some x)(hx:Loc X.env.scope x)(hf:X.fn x=true∨X.env.scope.names.lookup x=some .local:=by first|exact .inl rfl|exact .inr rfl|assumption):PG X (.Name x pos) (b1K i):=by
 intro pins s σ H v u Q I r h;exact wpAny_assign_Name (a5K I hN hi hx r (fun s' I'=>⟨_,H,I',h⟩) hf)
def c1c:TGs:=fun vs σ H Q=>vs=[]/\Q σ H
noncomputable def b9k(t:TG)(u:TGs):TGs:=fun vs σ H Q=>∃v r,vs=v::r/\t v σ H fun σ' H'=>u r σ' H' Q
theorem b3x:PGs X [] c1c:=by
 intro pins s σ H vs us Q I r h;obtain⟨e,h⟩:=h;subst e;cases r;exact assignInOrder_nil ⟨σ,H,I,h⟩
theorem b0K{es:List Expr}{t:TG}{u:TGs}(h1:PG X e t)(h2:PGs X es u)
 (hs:(assignEach (e::es) X.env).map (·.2)=assign e X.env::(assignEach es X.env).map (·.2):=by rfl):PGs X (e::es) (b9k t u):=by
 intro pins s σ H vs us Q I r h;obtain⟨v,vr,e1,h⟩:=h;subst e1
 cases r with
 |cons r rr=>
  rw[hs];refine assignInOrder_cons (thn (h1 pins s σ H _ _ _ I r h) fun _ s1 zz=>?_)
  obtain⟨σ1,H1,I1,q1⟩:=zz;exact h2 pins s1 σ1 H1 _ _ Q I1 rr q1
noncomputable def c1a(K:PySem.W.Frag)(n:Nat)(t:TGs):TG:=fun v σ H Q=>∃a xs,v=.ref a/\SqT K H a xs/\xs.length=n/\t xs σ H Q
theorem b6a{es:List Expr}{k:Nat}{t:TGs}(hc:X.calm=true)(h:PGs X es t)
 (hn:(assignEach es X.env).length=n:=by rfl) (hst:(assignEach es X.env).findIdx? (·.1)=none:=by rfl):PG X (.Tuple es k pos) (c1a X.K n t):=by
 intro pins s σ H v u Q I r hw;obtain⟨a,xs,e1,hq,hl,hw⟩:=hw;subst e1;cases r;obtain⟨its,rv,ht,hz⟩:=I.tuple hq;refine assign_Tuple_tuple (I.ok.hd hc) ht (by simp[hn,←hl,rv.length]) hst fun h' hx=>?_
 have I1:Inv X pins σ H {s with heap:=h'}:=I.kept (t':=s.toks) fun b o e=>hx b o (Nat.ne_of_lt (Heap.lt_size e)) e
 exact h pins _ σ H xs _ Q I1 (by simpa using rv) hw
noncomputable def b9j(to ti:TE)(t:b7P):TG:=fun v σ H Q=>to σ H fun o H1=>ti σ H1 fun i H2=>t o i v H2 fun H3=>Q σ H3
theorem b6b{o i:Expr}{t:b7P}(ho:PE X o to)(hi:PE X i ti)(hs:b7R X t)
 (ha:∀v,assign (.Subscript o i pos) X.env v=(do
  let ov←holding [v] (eval o X.env)
  let iv←holding [v,ov] (eval i X.env)
  standAt pos
  holding [v,ov,iv] (setItem ov iv v)
  release [v,ov,iv] []):=by intro _;rfl):PG X (.Subscript o i pos) (b9j to ti t):=by
 intro pins s σ H v u Q I r h;rw[ha];refine wpAny_bind (wpAny_holding (thn (ho pins s σ H _ I h) fun ov s1 zz=>?_))
 obtain⟨x,H1,I1,r1,q1⟩:=zz;refine wpAny_bind (wpAny_holding (thn (hi pins s1 σ H1 _ I1 q1) fun iv s2 zz=>?_))
 obtain⟨y,H2,I2,r2,q2⟩:=zz;refine wpAny_bind (wpAny_standAt (wpAny_bind (wpAny_holding (thn (hs pins s2 σ H2 x y v ov iv u _ I2 r1 r2 r q2) fun _ s3 zz=>?_))))
 obtain⟨H3,I3,q3⟩:=zz;exact wpAny_release ⟨σ,H3,I3,q3⟩
noncomputable def b5z(te:TE)(g:TG):TS:=fun D σ H=>te σ H fun x H1=>g x σ H1 D.nx
theorem b5U{g:TG}(he:PE X e te)(hg:PG X tg g)(hs:swapsWithSole [tg] e pos.line X.env=pure false:=by rfl)(hw:swappedStores [tg] e X.env=pure none:=by rfl)
 (h1:(assignEach [tg] X.env).map (·.2)=[assign tg X.env]:=by rfl):PS X (.Assign [tg] e pos) (b5z te g):=by
 intro pins s σ H D I h;refine wpAny_Assign_stores (thn (he pins s σ H _ I h) fun v s1 zz=>?_) hs hw
 obtain⟨x,H1,I1,r1,q1⟩:=zz;rw[h1];exact thn (hg pins s1 σ H1 x v _ I1 r1 q1) fun _ s2 q=>q
theorem b0D{i:Nat}(hN:X.N.Nodup)(hi:X.N[i]? =some x)(hx:Loc X.env.scope x)(he:PE X e te)(hs:swapsWith e (some (.Name x pos')) pos.line X.env=pure false:=by rfl)(hf:X.fn x=true∨X.env.scope.names.lookup x=some .local:=by first|exact .inl rfl|exact .inr rfl|assumption):
 PS X (.Assign [.Name x pos'] e pos) (b5z te (b1K i)):=by
 intro pins s σ H D I h;refine wpAny_Assign_Name (thn (he pins s σ H _ I h) fun v s1 zz=>?_) hs
 obtain⟨y,H1,I1,r1,q1⟩:=zz;exact a5K I1 hN hi hx r1 (fun s2 I2=>⟨_,H1,I2,q1⟩) hf
end
variable{body:List Stmt}{tb:TS}
structure It where
 go:Nat->Hp->Prop
 yld:Nat->Hp->V->Hp->Prop
 stop:Nat->Hp->Prop
def a2f(X:Cx)(pins:List (Addr×Obj))(H:Hp)(b:Addr):Prop:=
 H b=none/\b≠X.env.locals/\b∉X.fs/\(b∈X.ex∨X.s₀.heap.objs.size<=b)/\(∀x c,X.env.cells.lookup x=some c->c≠b)/\∀p∈X.pn++pins,p.1≠b
variable{H':Hp}
theorem Inv.fpOk{s:Shared}(I:Inv X pins σ H s)(hb:s.heap.objs.size<=b)(hn:H' b=none):a2f X pins H' b:=by
 refine⟨hn,Nat.ne_of_gt (aC I.lt hb),I.nofs hb,.inr (aU I.sz hb),fun x c e z=>?_,fun p hp z=>?_⟩
 · obtain⟨v,q⟩:=I.cell x c e;exact absurd (aC q.lt (by rw[z];exact hb)) (aR _)
 · exact absurd (aC (Heap.lt_size (I.pin p hp).1) (by rw[z];exact hb)) (aR _)
structure Turn(P:Program)(w:World)(K:PySem.W.Frag)(tg:Expr)(J:It)(fp:List Addr)(it:Addr)(tn:Nat->Heap->Prop):Prop where
 mem:it∈fp
 obj:∀i h,tn i h->∀b∈fp,∃o,h.get? b=some o/\∀v,o.data≠.cell v
 keep:∀i h h',tn i h->(∀b∈fp,∀o,h.get? b=some o->h'.get? b=some o)->tn i h'
 item:∀(X:Cx),X.prog=P->X.w=w->X.K=K->X.calm=true->∀(i:Nat) (pins:List (Addr×Obj)) (s:Shared) (σ:St) (H:Hp) (E:Value->Shared->Prop),Inv X pins σ H s->(∀b∈fp,a2f X pins H b)->tn i s.heap->J.go i H→
  wpAny (model P w) X.A (pyNext (.ref it)) (fun r s1=>∃u,r=some u∧
   wpAny (model P w) X.A (letOwnedTupleGo tg (.ref it) u) (fun _ s2=>∃x H',Inv X pins σ H' s2/\f6 x u/\J.yld i H x H'/\tn (i+1) s2.heap/\∀b∈fp,H' b=none) E s1) E s
 done:∀(X:Cx),X.prog=P->X.w=w->X.K=K->X.calm=true->∀(i:Nat) (pins:List (Addr×Obj)) (s:Shared) (σ:St) (H:Hp) (E:Value->Shared->Prop),Inv X pins σ H s->(∀b∈fp,a2f X pins H b)->tn i s.heap->J.stop i H→
  wpAny (model P w) X.A (pyNext (.ref it)) (fun r s1=>r=none/\Inv X pins σ H s1) E s
 self:∀(A:Around) (i:Nat) (s:Shared) (Q:Value->Shared->Prop) (E:Value->Shared->Prop),tn i s.heap->Q (.ref it) s->wpAny (model P w) A (pyIter (.ref it)) Q E s
abbrev TI:=St->Hp->(It->Hp->Prop)->Prop
def PIE(X:Cx)(pins:List (Addr×Obj))(σ:St)(tg:Expr)(R:It->Hp->Prop)(itv:Value)(s2:Shared):Prop:=
 ∃(it:Addr) (fp:List Addr) (tn:Nat->Heap->Prop) (J:It) (H':Hp),itv=.ref it/\Inv X pins σ H' s2/\Turn X.prog X.w X.K tg J fp it tn/\tn 0 s2.heap/\(∀b∈fp,a2f X pins H' b)/\R J H'
def PI(X:Cx)(tg iter:Expr)(wi:TI):Prop:=
 ∀(pins:List (Addr×Obj)) (s:Shared) (σ:St) (H:Hp) (R:It->Hp->Prop),Inv X pins σ H s->wi σ H R→
  wpAny (model X.prog X.w) X.A (eval iter X.env) (fun v s1=>wpAny (model X.prog X.w) X.A (pyIter v) (PIE X pins σ tg R) X.xe s1) X.xe s
theorem a6m{E:Value->Shared->Prop}{s:Shared}{o:Obj}{n:String}{vs:Array Value}{Q:Unit->Shared->Prop}(ho:s.heap.get? it=some o)(hc:o.cls=.type n)(hd:o.data=.fields vs)
   (hn:["enumerate","zip","dict_itemiterator","dict_reverseitemiterator","odict_iterator","itertools.zip_longest","itertools.pairwise"].contains n=false) (hQ:Q () s):wpAny M A (letOwnedTupleGo tg (.ref it) u) Q E s:=by
 unfold letOwnedTupleGo
 cases tg <;>first
   |exact wpAny_pure hQ
   |(cases u<;>first
       |exact wpAny_pure hQ
       | (refine wpAny_bind (wpAny_load ho ?_)
          rw[hc,hd]
          show wpAny M A (if(["enumerate","zip","dict_itemiterator","dict_reverseitemiterator","odict_iterator","itertools.zip_longest","itertools.pairwise"].contains n&&vs[0]? ==some (rawInt _))=true then _ else _) Q E s
          rw[az (by intro h;rw[hn,Bool.false_and] at h;cases h)]
          exact wpAny_pure hQ))
noncomputable def Itl(K:PySem.W.Frag)(a:Addr):It:=
 ⟨fun i H=>∃xs x,SqL K H a xs/\xs[i]? =some x,fun i H x H'=>H'=H/\∀xs,SqL K H a xs->xs[i]? =some x,fun i H=>∃xs,SqL K H a xs/\xs.length<=i⟩
noncomputable def Itt(K:PySem.W.Frag)(a:Addr):It:=
 ⟨fun i H=>∃xs x,SqT K H a xs/\xs[i]? =some x,fun i H x H'=>H'=H/\∀xs,SqT K H a xs->xs[i]? =some x,fun i H=>∃xs,SqT K H a xs/\xs.length<=i⟩
noncomputable def Itr(lo:Int)(n:Nat):It:=⟨fun i _=>i<n,fun i H x H'=>H'=H/\x=.int (lo+i),fun i _=>n<=i⟩
theorem a8H(a it:Addr):Turn P w K tg (Itl K a) [it] it (fun i h=>h.IsListIter it a i) where
 mem:=by simp
 obj:=fun i h st b hb=>by
  have e:b=it:=by simpa using hb
  subst e;obtain⟨o,e,c,d⟩:=st;exact⟨o,e,fun v z=>by rw[d] at z;cases z⟩
 keep:=fun i h h' st k=>st.at fun o e=>k it (by simp) o e
 item:=by
  intro X hP hw hK hc i pins s σ H E I hf st hg;subst hP hw hK;obtain⟨xs,x,hq,hx⟩:=hg;obtain⟨its,rv,p,hz⟩:=I.list hq;obtain⟨u,hu,ru⟩:=rv.get hx;obtain⟨f0,f1,f2,f3,f4,f5⟩:=hf it (by simp)
  refine wpAny_pyNext_list_item st p.isList (x:=u) (by simpa using hu) fun h' st' sb=>?_
  have I1:Inv X pins σ H {s with heap:=h'}:=I.turned (t':=s.toks) (fun b o hb e=>(sb.2 b hb).trans e) f0 f1 f3 f4 f5
  obtain⟨o,e,c,d⟩:=id st';exact⟨u,rfl,a6m (s:={s with heap:=h'}) e c d (by decide) ⟨x,H,I1,ru,⟨rfl,fun ys hy=>by rw[I.list_inj hy hq];exact hx⟩,st',fun b hb=>(hf b hb).1⟩⟩
 done:=by
  intro X hP hw hK hc i pins s σ H E I hf st hg;subst hP hw hK;obtain⟨xs,hq,hx⟩:=hg;obtain⟨its,rv,p,hz⟩:=I.list hq;obtain⟨f0,f1,f2,f3,f4,f5⟩:=hf it (by simp)
  have hl:=rv.length;exact wpAny_pyNext_list_end (I.ok.hd hc) st p.isList (by simp;omega) fun h' eb=>⟨rfl,I.turned (t':=s.toks) (fun b o hb e=>eb b o hb e) f0 f1 f3 f4 f5⟩
 self:=fun _ _ _ _ _ st h=>wpAny_pyIter_listiter st h
theorem a6F(a it:Addr):Turn P w K tg (Itt K a) [it] it (fun i h=>h.IsTupleIter it a i) where
 mem:=by simp
 obj:=fun i h st b hb=>by
  have e:b=it:=by simpa using hb
  subst e;obtain⟨o,e,c,d⟩:=st;exact⟨o,e,fun v z=>by rw[d] at z;cases z⟩
 keep:=fun i h h' st k=>st.at fun o e=>k it (by simp) o e
 item:=by
  intro X hP hw hK hc i pins s σ H E I hf st hg;subst hP hw hK;obtain⟨xs,x,hq,hx⟩:=hg;obtain⟨its,rv,p,hz⟩:=I.tuple hq;obtain⟨u,hu,ru⟩:=rv.get hx;obtain⟨f0,f1,f2,f3,f4,f5⟩:=hf it (by simp)
  refine wpAny_pyNext_tuple_item st (show s.heap.IsTuple a its.toArray from p) (x:=u) (by simpa using hu) fun h' st' sb=>?_
  have I1:Inv X pins σ H {s with heap:=h'}:=I.turned (t':=s.toks) (fun b o hb e=>(sb.2 b hb).trans e) f0 f1 f3 f4 f5
  obtain⟨o,e,c,d⟩:=id st';exact⟨u,rfl,a6m (s:={s with heap:=h'}) e c d (by decide) ⟨x,H,I1,ru,⟨rfl,fun ys hy=>by rw[I.tuple_inj hy hq];exact hx⟩,st',fun b hb=>(hf b hb).1⟩⟩
 done:=by
  intro X hP hw hK hc i pins s σ H E I hf st hg;subst hP hw hK;obtain⟨xs,hq,hx⟩:=hg;obtain⟨its,rv,p,hz⟩:=I.tuple hq;obtain⟨f0,f1,f2,f3,f4,f5⟩:=hf it (by simp)
  have hl:=rv.length;exact wpAny_pyNext_tuple_end (I.ok.hd hc) st (show s.heap.IsTuple a its.toArray from p) (by simp;omega) fun h' eb=>⟨rfl,I.turned (t':=s.toks) (fun b o hb e=>eb b o hb e) f0 f1 f3 f4 f5⟩
 self:=fun _ _ _ _ _ st h=>wpAny_pyIter_tupleiter st h
theorem a6G(it:Addr)(lo:Int)(n:Nat):Turn P w K tg (Itr lo n) [it] it (fun i h=>IsRangeIter h it (lo+(i:Nat)*1) ((n:Int)-(i:Nat)) 1) where
 mem:=by simp
 obj:=fun i h st b hb=>by
  have e:b=it:=by simpa using hb
  subst e
  exact⟨_,st,fun v z=>by
   have z':Data.fields _=Data.cell v:=z
   cases z'⟩
 keep:=fun i h h' st k=>k it (by simp) _ st
 item:=by
  intro X hP hw hK hc i pins s σ H E I hf st hg;subst hP hw hK;obtain⟨f0,f1,f2,f3,f4,f5⟩:=hf it (by simp)
  have W:=Walks.range (prog:=X.prog) (w:=X.w) (I.ok.hd hc) it lo 1 n;refine W.item i s _ _ hg st fun v h' tk hv st' kk=>?_
  obtain⟨t,rfl⟩:=hv
  have I1:Inv X pins σ H {s with heap:=h',toks:=tk}:=I.turned (fun b o hb e=>kk b o (by simpa using hb) e) f0 f1 f3 f4 f5
  refine⟨_,rfl,a6m (s:={s with heap:=h',toks:=tk}) (n:="range_iterator") st' rfl rfl (by decide) ⟨.int (lo+i),H,I1,⟨t,?_⟩,⟨rfl,rfl⟩,st',fun b hb=>(hf b hb).1⟩⟩
  rw[Int.mul_one]
 done:=by
  intro X hP hw hK hc i pins s σ H E I hf st hg;subst hP hw hK;obtain⟨f0,f1,f2,f3,f4,f5⟩:=hf it (by simp)
  exact wpAny_pyNext_range_end (I.ok.hd hc) st (by have:n<=i:=hg;omega) fun h' eb=>⟨rfl,I.turned (t':=s.toks) (fun b o hb e=>eb b o hb e) f0 f1 f3 f4 f5⟩
 self:=fun _ _ _ _ _ st h=>wpAny_pyIter_rangeiter st h
variable{lo:Int}{p:Pos}{fp:List Addr}{iter:Expr}
section
def b8X(K:PySem.W.Frag)(tl:TE):TI:=fun σ H R=>tl σ H fun x H1=>∃a,x=.ref a/\(∃xs,SqL K H1 a xs)/\R (Itl K a) H1
def c0Y(K:PySem.W.Frag)(tl:TE):TI:=fun σ H R=>tl σ H fun x H1=>∃a,x=.ref a/\(∃xs,SqT K H1 a xs)/\R (Itt K a) H1
theorem b3u{l:Expr}{tl:TE}(hl:PE X l tl):PI X tg l (b8X X.K tl):=by
 intro pins s σ H R I h;refine thn (hl pins s σ H _ I h) fun v s1 zz=>?_
 obtain⟨x,H1,I1,r1,q1⟩:=zz;obtain⟨a,e,⟨xs,hq⟩,q⟩:=q1;subst e;cases r1;obtain⟨its,rv,p,hz⟩:=I1.list hq;refine wpAny_pyIter_list p.isList ?_
 refine⟨s1.heap.objs.size,[s1.heap.objs.size],_,_,H1,rfl,I1.kept (t':=s1.toks) fun b o e=>Heap.get?_push_of_some _ e,a8H a _,⟨_,Heap.get?_push_size _ rfl,rfl,rfl⟩,fun b hb=>?_,q⟩
 have e:b=s1.heap.objs.size:=by simpa using hb
 subst e;exact I1.fpOk (ai _) (I1.hok.fresh (ai _))
theorem b0I{l:Expr}{tl:TE}(hl:PE X l tl):PI X tg l (c0Y X.K tl):=by
 intro pins s σ H R I h;refine thn (hl pins s σ H _ I h) fun v s1 zz=>?_
 obtain⟨x,H1,I1,r1,q1⟩:=zz;obtain⟨a,e,⟨xs,hq⟩,q⟩:=q1;subst e;cases r1;obtain⟨its,rv,p,hz⟩:=I1.tuple hq;refine wpAny_pyIter_tuple (show s1.heap.IsTuple a its.toArray from p) ?_
 refine⟨s1.heap.objs.size,[s1.heap.objs.size],_,_,H1,rfl,I1.kept (t':=s1.toks) fun b o e=>Heap.get?_push_of_some _ e,a6F a _,⟨_,Heap.get?_push_size _ rfl,rfl,rfl⟩,fun b hb=>?_,q⟩
 have e:b=s1.heap.objs.size:=by simpa using hb
 subst e;exact I1.fpOk (ai _) (I1.hok.fresh (ai _))
theorem b0v{s:Shared}{R:It->Hp->Prop}{E:Value->Shared->Prop}{hi:Int}{t u v:Tok}{tk:Nat}(I:Inv X pins σ H s)(h1: -(2^62)<=lo)(h2:lo<2^62)(h3: -(2^62)<=hi)(h4:hi<2^62)
 (q:R (Itr lo (hi-lo).toNat) H):wpAny (model X.prog X.w) X.A (pyIter (.ref s.heap.objs.size)) (PIE X pins σ tg R) E {s with heap:=s.heap.push {cls:=.type "range",data:=.fields #[.int lo t,.int hi u,.int 1 v]},toks:=tk}:=by
 refine wpAny_pyIter_range (IsRange.new ..) (small_one h1 h2 h3 h4) ?_
 have I1:Inv X pins σ H {s with heap:=s.heap.push {cls:=.type "range",data:=.fields #[.int lo t,.int hi u,.int 1 v]},toks:=tk}:=I.kept fun b o e=>Heap.get?_push_of_some _ e
 refine⟨(s.heap.push {cls:=.type "range",data:=.fields #[.int lo t,.int hi u,.int 1 v]}).objs.size,[(s.heap.push {cls:=.type "range",data:=.fields #[.int lo t,.int hi u,.int 1 v]}).objs.size],_,_,H,rfl,
  I1.kept (t':=tk) fun b o e=>Heap.get?_push_of_some _ e,a6G _ lo (hi-lo).toNat,?_,fun b hb=>?_,q⟩
 · have e1:lo+((0:Nat):Int)*1=lo:=by simp
   have e2:(((hi-lo).toNat:Nat):Int)-((0:Nat):Int)=Builtin.Range.rangeSize lo hi 1:=by rw[rangeSize_one];split<;>omega
   show IsRangeIter _ _ (lo+((0:Nat):Int)*1) ((((hi-lo).toNat:Nat):Int)-((0:Nat):Int)) 1
   rw[e1,e2];exact Heap.get?_push_size _ rfl
 · have e:b=(s.heap.push {cls:=.type "range",data:=.fields #[.int lo t,.int hi u,.int 1 v]}).objs.size:=by simpa using hb
   subst e;exact I1.fpOk (ai _) (I1.hok.fresh (ai _))
def b8W(ta:TA):TI:=fun σ H R=>ta σ H fun vs H1=>∃j:Int,vs=[.int j]/\ -(2^62)<=j/\j<2^62/\R (Itr 0 j.toNat) H1
theorem a8Z{a:Expr}(hg:Gl X "range")(hm:X.mg "range"=none)(ha:PA X [a] ta)(hs:starEach [a] X.env=[(false,eval a X.env)]:=by rfl):PI X tg (.Call (.Name "range" p) [a] [] pos) (b8W ta):=by
 intro pins s σ H R I h;refine Call_ (W4 I hg hm boot_range (PyProof.Rows.callWith_type1 (thn (ha pos pins s σ H _ I h) fun us s1 zz=>?_) hs rfl))
 obtain⟨vs,H1,I1,r1,q1⟩:=zz;obtain⟨j,e,q1,q2,q⟩:=q1;subst e
 cases r1 with
 |cons r rr=>
  cases rr;obtain⟨t,rfl⟩:=r;exact call_range_1 (b0v I1 (by omega) (by omega) q1 q2 (by simpa using q))
noncomputable def c0E(wi:TI)(g:TG)(tb:TS):TS:=fun D σ H=>wi σ H fun J H1=>∃W:Nat->Nat->St->Hp->Prop,(∃m,W 0 m σ H1)/\∀i m σ H,W i m σ H→
 (J.stop i H/\D.nx σ H)∨(J.go i H/\∃N:St->Hp->Prop,(∀σ' H',N σ' H'->∃m',m'<m/\W (i+1) m' σ' H')/\∀x H',J.yld i H x H'->g x σ H' fun σ2 H2=>tb {D with nx:=N,ct:=N,bk:=D.nx} σ2 H2)
noncomputable def a2L(fp:List Addr)(h:Heap):List (Addr×Obj):=fp.filterMap fun b=>(h.get? b).map fun o=>(b,o)
theorem W3{o:Obj}(hb:b∈fp)(e:h.get? b=some o):(b,o)∈a2L fp h:=List.mem_filterMap.mpr ⟨b,hb,by rw[e];rfl⟩
theorem a9d{p:Addr×Obj}(hp:p∈a2L fp h):p.1∈fp/\h.get? p.1=some p.2:=by
 obtain⟨b,hb,e⟩:=List.mem_filterMap.mp hp
 cases q:h.get? b with
 |none=>rw[q] at e;cases e
 |some o=>
  rw[q] at e
  have e':(b,o)=p:=ax e
  subst e';exact⟨hb,q⟩
theorem Inv.pinned{s:Shared}(I:Inv X pins σ H s)(hf:∀b∈fp,a2f X pins H b)(ho:∀b∈fp,∃o,s.heap.get? b=some o/\∀v,o.data≠.cell v):Inv X (pins++a2L fp s.heap) σ H s:=
 I.pins_of fun p hp=>(aK.mp hp).elim (fun z=>I.pin p (mem_append_right _ z)) fun z=>by
  obtain⟨hb,e⟩:=a9d z;obtain⟨f0,f1,f2,_⟩:=hf p.1 hb;obtain⟨o,e',d⟩:=ho p.1 hb;rw[e] at e';cases e'
  exact⟨e,f0,f1,f2,d⟩
theorem Inv.unpinned{pl:List (Addr×Obj)}{s:Shared}(I:Inv X (pins++pl) σ H s):Inv X pins σ H s:=I.pins_of fun p hp=>I.pin p (mem_append_right _ (List.mem_append_left _ hp))
theorem b5S{wi:TI}{g:TG}(hp:PassesOwn (model X.prog X.w) X.A X.env X.xe)(hc:X.calm=true)(hi:PI X tg iter wi)(hg:PG X tg g)(hb:PSs X body tb)
 (hs:∀x,foldedSetIterable iter X.env x=pure x:=by intro _;rfl):PS X (.For tg iter body [] pos) (c0E wi g tb):=by
 intro pins s σ H D I h;refine wpAny_For (thn (hi pins s σ H _ I h) fun v s1 h1=>thn h1 fun itv s2 h2=>?_) hs
 obtain⟨it,fp,tn,J,H2,e,I2,T,st2,f2,W,⟨m0,w0⟩,turn⟩:=h2;subst e
 -- what stays true of the iterator's objects through the loop
 have stat:∀{H':Hp},(∀b∈fp,H' b=none)->∀b∈fp,a2f X pins H' b:=fun hn b hb=>⟨hn b hb,(f2 b hb).2⟩
 refine codeAny_forLoop_any (fun n s'=>∃i σ' H',Inv X pins σ' H' s'/\tn i s'.heap/\(∀b∈fp,H' b=none)/\W i n σ' H') ?_ m0 ⟨0,σ,H2,I2,st2,fun b hb=>(f2 b hb).1,w0⟩
 rintro n s3 ⟨i,σ3,H3,I3,st3,fr3,w3⟩
 rcases turn i n σ3 H3 w3 with⟨stop,qn⟩|⟨go,N,hN,step⟩
 · refine wpAny_passesOwn hp (thn (T.done X rfl rfl rfl hc i pins s3 σ3 H3 X.xe I3 (stat fr3) st3 stop) fun r s4 zz=>?_)
   obtain⟨hr,I4⟩:=zz;subst hr;exact wpAny_execs_nil ⟨σ3,H3,I4,qn⟩
 · refine wpAny_passesOwn hp (thn (T.item X rfl rfl rfl hc i pins s3 σ3 H3 X.xe I3 (stat fr3) st3 go) fun r s4 zz=>?_)
   obtain⟨u,hr,h4⟩:=zz;subst hr;refine wpAny_passesOwn hp (thn h4 fun _ s5 zz=>?_)
   obtain⟨x,H5,I5,r5,y5,st5,fr5⟩:=zz
   have I5':=I5.pinned (stat fr5) (T.obj _ _ st5)
   refine wpAny_passesOwn hp (thn (hg _ s5 σ3 H5 x u _ I5' r5 (step x H5 y5)) fun _ s6 zz=>?_)
   obtain⟨σ6,H6,I6,q6⟩:=zz;refine wpAny_passesOwn hp (thn (hb _ s6 σ6 H6 _ I6 q6) fun f s7 q7=>?_)
   have again:∀{σ7:St} {H7:Hp},Inv X (pins++a2L fp s5.heap) σ7 H7 s7->N σ7 H7->∃m,m<n/\∃i σ' H',Inv X pins σ' H' s7/\tn i s7.heap/\(∀b∈fp,H' b=none)/\W i m σ' H':=fun{σ7 H7} I7 n7=>by
    obtain⟨m',hm,w7⟩:=hN σ7 H7 n7;refine⟨m',hm,i+1,σ7,H7,I7.unpinned,T.keep _ _ _ st5 fun b hb o e=>(I7.pin (b,o) (mem_append_right _ (mem_append_right _ (W3 hb e)))).1,fun b hb=>?_,w7⟩
    obtain⟨o,e,d⟩:=T.obj _ _ st5 b hb;exact(I7.pin (b,o) (mem_append_right _ (mem_append_right _ (W3 hb e)))).2.1
   cases f with
   |next=>obtain⟨σ7,H7,I7,n7⟩:=q7;exact again I7 n7
   |cont=>obtain⟨σ7,H7,I7,n7⟩:=q7;exact again I7 n7
   |brk=>obtain⟨σ7,H7,I7,q7⟩:=q7;exact⟨σ7,H7,I7.unpinned,q7⟩
   |ret v=>obtain⟨x7,σ7,H7,I7,r7,q7⟩:=q7;exact⟨x7,σ7,H7,I7.unpinned,r7,q7⟩
end
abbrev R2:=V->V->Hp->VK->Prop
def OpR(X:Cx)(f:Value->Value->Sem Value)(r:R2):Prop:=
 ∀(pins:List (Addr×Obj)) (s:Shared) (σ:St) (H:Hp) (x y:V) (v u:Value) (Q:VK),Inv X pins σ H s->f6 x v->f6 y u->r x y H Q→
  wpAny (model X.prog X.w) X.A (f v u) (EP X pins σ Q) X.xe s
def UnR(X:Cx)(f:Value->Sem Value)(r:V->Hp->VK->Prop):Prop:=
 ∀(pins:List (Addr×Obj)) (s:Shared) (σ:St) (H:Hp) (x:V) (v:Value) (Q:VK),Inv X pins σ H s->f6 x v->r x H Q→
  wpAny (model X.prog X.w) X.A (f v) (EP X pins σ Q) X.xe s
def C6(X:Cx)(f:Value)(r:List V->Hp->VK->Prop):Prop:=
 ∀(pins:List (Addr×Obj)) (s:Shared) (σ:St) (H:Hp) (xs:List V) (us:List Value) (Q:VK),Inv X pins σ H s->i7 xs us->r xs H Q→
  wpAny (model X.prog X.w) X.A (call f us) (EP X pins σ Q) X.xe s
def c1y(X:Cx)(r:V->Hp->(Bool->Hp->Prop)->Prop):Prop:=
 ∀(pins:List (Addr×Obj)) (s:Shared) (σ:St) (H:Hp) (x:V) (v:Value) (Q:Bool->Hp->Prop),Inv X pins σ H s->f6 x v->r x H Q→
  wpAny (model X.prog X.w) X.A (truthy v) (TP X pins σ Q) X.xe s
noncomputable def tOp(r:R2)(ta tb:TE):TE:=fun σ H Q=>ta σ H fun x H1=>tb σ H1 fun y H2=>r x y H2 Q
def tUn(r:V->Hp->VK->Prop)(ta:TE):TE:=fun σ H Q=>ta σ H fun x H1=>r x H1 Q
def rI(C:Int->Int->Prop)(g:Int->Int->V):R2:=fun x y H Q=>∃i j,x=.int i/\y=.int j/\C i j/\Q (g i j) H
noncomputable def rI0(g:Int->Int->V):R2:=fun x y H Q=>∃i j,x=.int i/\y=.int j/\Q (g i j) H
def rU(g:Int->V):V->Hp->VK->Prop:=fun x H Q=>∃i,x=.int i/\Q (g i) H
variable{f:Value->Value->Sem Value}
section
variable{a b:Expr}{ta tb tc:TE}
theorem b7u(ha:PE X a ta)(hb:PE X b tb){s:Shared}{R:V->V->Hp->Prop}(I:Inv X pins σ H s)
 (h:ta σ H fun x H1=>tb σ H1 fun y H2=>R x y H2)
 (hf:∀v u s2 x y H2,Inv X pins σ H2 s2->f6 x v->f6 y u->R x y H2->wpAny (model X.prog X.w) X.A (f v u) Q X.xe s2):
 wpAny (model X.prog X.w) X.A (eval a X.env) (fun v s₁=>wpAny (model X.prog X.w) X.A (eval b X.env) (fun u s₂=>wpAny (model X.prog X.w) X.A (f v u) Q X.xe s₂) X.xe s₁) X.xe s:=by
 refine thn (ha pins s σ H _ I h) fun v s1 zz=>?_
 obtain⟨x,H1,I1,r1,q1⟩:=zz;refine thn (hb pins s1 σ H1 _ I1 q1) fun u s2 zz=>?_
 obtain⟨y,H2,I2,r2,q2⟩:=zz;exact hf v u s2 x y H2 I2 r1 r2 q2
theorem b8C{op:Operator}{r:R2}(ho:OpR X (binaryOp op) r)(ha:PE X a ta)(hb:PE X b tb):PE X (.BinOp a op b pos) (tOp r ta tb):=by
 intro pins s σ H Q I h;exact wpAny_BinOp (b7u ha hb I h fun v u s2 x y H2 I2 rx ry q=>ho pins s2 σ H2 x y v u Q I2 rx ry q)
theorem b8A{op:UnaryOp}{r:V->Hp->VK->Prop}(ho:UnR X (unaryOp op) r)(ha:PE X a ta):PE X (.UnaryOp op a pos) (tUn r ta):=by
 intro pins s σ H Q I h;exact UnaryOp_ (thn (ha pins s σ H _ I h) fun v s1 ⟨x,H1,I1,r1,q1⟩=>ho pins s1 σ H1 x v Q I1 r1 q1)
theorem opI{C:Int->Int->Prop}{g:Int->Int->Int}
 (rule:∀(i j:Int) (t u:Tok) (s:Shared) (Q:Value->Shared->Prop) (E:Value->Shared->Prop),C i j->Q (.int (g i j) s.toks) {s with toks:=s.toks+1}->wpAny (model X.prog X.w) X.A (f (.int i t) (.int j u)) Q E s):
 OpR X f (rI C fun i j=>.int (g i j)):=by
 intro pins s σ H x y v u Q I rx ry h;obtain⟨i,j,rfl,rfl,hc,q⟩:=h;obtain⟨t,rfl⟩:=rx;obtain⟨t',rfl⟩:=ry;exact rule i j t t' s _ _ hc ⟨.int (g i j),H,I.tok _,⟨_,rfl⟩,q⟩
theorem b8L{g:Int->Int->Int}
 (rule:∀(i j:Int) (t u:Tok) (s:Shared) (Q:Value->Shared->Prop) (E:Value->Shared->Prop),Q (.int (g i j) s.toks) {s with toks:=s.toks+1}->wpAny (model X.prog X.w) X.A (f (.int i t) (.int j u)) Q E s):
 OpR X f (rI0 fun i j=>.int (g i j)):=by
 intro pins s σ H x y v u Q I rx ry h;obtain⟨i,j,rfl,rfl,q⟩:=h;obtain⟨t,rfl⟩:=rx;obtain⟨t',rfl⟩:=ry;exact rule i j t t' s _ _ ⟨.int (g i j),H,I.tok _,⟨_,rfl⟩,q⟩
theorem b3J{g:Int->Int->Bool}
 (rule:∀(i j:Int) (t u:Tok) (s:Shared) (Q:Value->Shared->Prop) (E:Value->Shared->Prop),Q (.bool (g i j)) s->wpAny (model X.prog X.w) X.A (f (.int i t) (.int j u)) Q E s):
 OpR X f (rI0 fun i j=>.bl (g i j)):=by
 intro pins s σ H x y v u Q I rx ry h;obtain⟨i,j,rfl,rfl,q⟩:=h;obtain⟨t,rfl⟩:=rx;obtain⟨t',rfl⟩:=ry;exact rule i j t t' s _ _ ⟨.bl (g i j),H,I,rfl,q⟩
def c1U(i j:Int):Prop:=0<j/\j<1073741824
def b7T(i j:Int):Prop:=(-(2^64)<i/\i<2^64)∨(-(2^64)<j/\j<2^64)
theorem b7T.ok{i j:Int}(h:b7T i j):IntMulOk i j:=by
 rcases h with⟨h1,h2⟩|⟨h1,h2⟩
 · exact .of_left (intBits_le_64 h1 h2)
 · exact .of_right (intBits_le_64 h1 h2)
theorem b6s:OpR X (binaryOp .Add) (rI0 fun i j=>.int (i+j)):=b8L fun _ _ _ _ _ _ _ q=>add_int q
theorem b6l:OpR X (binaryOp .Sub) (rI0 fun i j=>.int (i-j)):=b8L fun _ _ _ _ _ _ _ q=>sub_int q
theorem b6o:OpR X (binaryOp .Mult) (rI b7T fun i j=>.int (i*j)):=opI fun _ _ _ _ _ _ _ hc q=>mul_int q hc.ok
theorem b3I:OpR X (binaryOp .FloorDiv) (rI c1U fun i j=>.int (i/j)):=opI fun i j _ _ _ _ _ hc q=>by
 have h1:(0:Int)<j:=hc.1
 have h2:j<1073741824:=hc.2
 exact floordiv_int (by omega) (by rw[Int.fdiv_eq_ediv_of_nonneg i (by omega)];exact q) (.inl (PyProof.noPylong_small (by omega)))
theorem b6p:OpR X (binaryOp .Mod) (rI (fun _ j=>0<j) fun i j=>.int (i%j)):=opI fun i j _ _ _ _ _ hc q=>by
 have h1:(0:Int)<j:=hc
 exact mod_int' (by omega) (by rw[Int.fmod_eq_emod_of_nonneg i (by omega)];exact q)
theorem unI{f:Value->Sem Value}{g:Int->Int}
 (rule:∀(i:Int) (t:Tok) (s:Shared) (Q:Value->Shared->Prop) (E:Value->Shared->Prop),Q (.int (g i) s.toks) {s with toks:=s.toks+1}->wpAny (model X.prog X.w) X.A (f (.int i t)) Q E s):
 UnR X f (rU fun i=>.int (g i)):=by
 intro pins s σ H x v Q I rx h;obtain⟨i,rfl,q⟩:=h;obtain⟨t,rfl⟩:=rx;exact rule i t s _ _ ⟨.int (g i),H,I.tok _,⟨_,rfl⟩,q⟩
theorem b5p:UnR X (unaryOp .USub) (rU fun i=>.int (-i)):=unI fun _ _ _ _ _ q=>neg_int q
end
noncomputable def scal:V->V->Bool
 |.non,.non=>true|.non,.int _=>true|.int _,.non=>true|.non,.bl _=>true|.bl _,.non=>true|.non,.str _=>true|.str _,.non=>true
 |.int _,.int _=>true|.bl _,.bl _=>true|.str _,.str _=>true|.byt _,.byt _=>true
 |.int _,.str _=>true|.str _,.int _=>true|.bl _,.str _=>true|.str _,.bl _=>true
 |_,_=>false
def rEq:R2:=fun x y H Q=>scal x y=true/\Q (.bl (decide (x=y))) H
def rNe:R2:=fun x y H Q=>scal x y=true/\Q (.bl (!decide (x=y))) H
theorem a8w{i j:Int}:decide (V.int i=V.int j)=(i==j):=by
 rw[Bool.eq_iff_iff];simp
theorem b2k{i j:Bool}:decide (V.bl i=V.bl j)=(i==j):=by
 rw[Bool.eq_iff_iff];simp
theorem a8v{i j:Str}:decide (V.str i=V.str j)=(i==j):=by
 rw[Bool.eq_iff_iff];simp
theorem a8x{i j:Array UInt8}:decide (V.byt i=V.byt j)=(i.toList==j.toList):=by
 rw[Bool.eq_iff_iff];cases i;cases j;simp
variable{op':CmpOp}{its:List Value}
section
variable{a b:Expr}{ta tb tc:TE}
theorem n8{s:Shared}{Q:VK}{k k':Bool}(I:Inv X pins σ H s)(q:Q (.bl k) H)(e:k=k'):EP X pins σ Q (.bool k') s:=by
 subst e;exact⟨.bl k,H,I,rfl,q⟩
theorem b8K:OpR X (compareOp .Eq) rEq:=by
 intro pins s σ H x y v u Q I rx ry h;obtain⟨hs,q⟩:=h
 cases x with
 |non=>
  cases rx
  cases y with
  |non=>cases ry;exact PySem.EqNone.eq_none_none (n8 I q (by simp))
  |bl j=>cases ry;exact PySem.EqNone.eq_none_bool (n8 I q (by simp))
  |int j=>obtain⟨t',rfl⟩:=ry;exact PySem.EqNone.eq_none_int (n8 I q (by simp))
  |str j=>obtain⟨t',rfl⟩:=ry;exact PySem.EqNone.eq_none_str (n8 I q (by simp))
  |_=>exact absurd (show false=true from hs) bv
 |bl i=>
  cases rx
  cases y with
  |non=>cases ry;exact PySem.EqNone.eq_bool_none (n8 I q (by simp))
  |bl j=>cases ry;exact eq_bool (n8 I q b2k)
  |str j=>obtain⟨t',rfl⟩:=ry;exact PySem.EqMixed.eq_bool_str (n8 I q (by simp))
  |_=>exact absurd (show false=true from hs) bv
 |int i=>
  obtain⟨t,rfl⟩:=rx
  cases y with
  |non=>cases ry;exact PySem.EqNone.eq_int_none (n8 I q (by simp))
  |int j=>obtain⟨t',rfl⟩:=ry;exact eq_int (n8 I q a8w)
  |str j=>obtain⟨t',rfl⟩:=ry;exact PySem.EqMixed.eq_int_str (n8 I q (by simp))
  |_=>exact absurd (show false=true from hs) bv
 |str i=>
  obtain⟨t,rfl⟩:=rx
  cases y with
  |non=>cases ry;exact PySem.EqNone.eq_str_none (n8 I q (by simp))
  |bl j=>cases ry;exact PySem.EqMixed.eq_str_bool (n8 I q (by simp))
  |int j=>obtain⟨t',rfl⟩:=ry;exact PySem.EqMixed.eq_str_int (n8 I q (by simp))
  |str j=>obtain⟨t',rfl⟩:=ry;exact eq_str (n8 I q a8v)
  |_=>exact absurd (show false=true from hs) bv
 |byt i=>
  obtain⟨t,rfl⟩:=rx
  cases y with
  |byt j=>obtain⟨t',rfl⟩:=ry;exact PySem.W.eq_bytes (n8 I q a8x)
  |_=>exact absurd (show false=true from hs) bv
 |_=>cases y<;>exact absurd (show false=true from hs) bv
theorem b8F:OpR X (compareOp .NotEq) rNe:=by
 intro pins s σ H x y v u Q I rx ry h;obtain⟨hs,q⟩:=h
 cases x with
 |non=>
  cases rx
  cases y with
  |non=>cases ry;exact PySem.EqNone.ne_none_none (n8 I q (by simp))
  |bl j=>cases ry;exact PySem.EqNone.ne_none_bool (n8 I q (by simp))
  |int j=>obtain⟨t',rfl⟩:=ry;exact PySem.EqNone.ne_none_int (n8 I q (by simp))
  |str j=>obtain⟨t',rfl⟩:=ry;exact PySem.EqNone.ne_none_str (n8 I q (by simp))
  |_=>exact absurd (show false=true from hs) bv
 |bl i=>
  cases rx
  cases y with
  |non=>cases ry;exact PySem.EqNone.ne_bool_none (n8 I q (by simp))
  |bl j=>cases ry;exact ne_bool (n8 I q (congrArg not b2k))
  |str j=>obtain⟨t',rfl⟩:=ry;exact PySem.EqMixed.ne_bool_str (n8 I q (by simp))
  |_=>exact absurd (show false=true from hs) bv
 |int i=>
  obtain⟨t,rfl⟩:=rx
  cases y with
  |non=>cases ry;exact PySem.EqNone.ne_int_none (n8 I q (by simp))
  |int j=>obtain⟨t',rfl⟩:=ry;exact ne_int (n8 I q (congrArg not a8w))
  |str j=>obtain⟨t',rfl⟩:=ry;exact PySem.EqMixed.ne_int_str (n8 I q (by simp))
  |_=>exact absurd (show false=true from hs) bv
 |str i=>
  obtain⟨t,rfl⟩:=rx
  cases y with
  |non=>cases ry;exact PySem.EqNone.ne_str_none (n8 I q (by simp))
  |bl j=>cases ry;exact PySem.EqMixed.ne_str_bool (n8 I q (by simp))
  |int j=>obtain⟨t',rfl⟩:=ry;exact PySem.EqMixed.ne_str_int (n8 I q (by simp))
  |str j=>obtain⟨t',rfl⟩:=ry;exact ne_str (n8 I q (congrArg not a8v))
  |_=>exact absurd (show false=true from hs) bv
 |byt i=>
  obtain⟨t,rfl⟩:=rx
  cases y with
  |byt j=>obtain⟨t',rfl⟩:=ry;exact PySem.W.ne_bytes (n8 I q (congrArg not a8x))
  |_=>exact absurd (show false=true from hs) bv
 |_=>cases y<;>exact absurd (show false=true from hs) bv
theorem b8G:OpR X (compareOp .Lt) (rI0 fun i j=>.bl (decide (i<j))):=b3J fun _ _ _ _ _ _ _ q=>lt_int q
theorem b8H:OpR X (compareOp .LtE) (rI0 fun i j=>.bl (decide (i<=j))):=b3J fun _ _ _ _ _ _ _ q=>le_int q
theorem b8I:OpR X (compareOp .Gt) (rI0 fun i j=>.bl (decide (j<i))):=b3J fun _ _ _ _ _ _ _ q=>gt_int q
theorem b8J:OpR X (compareOp .GtE) (rI0 fun i j=>.bl (decide (j<=i))):=b3J fun _ _ _ _ _ _ _ q=>ge_int q
theorem a9c:OpR X (compareOp .In) (fun x y H Q=>∃i j,x=.str i/\y=.str j/\Q (.bl (!(Builtin.Str.occurrences j i 0 j.length 1).isEmpty)) H):=by
 intro pins s σ H x y v u Q I rx ry h;obtain⟨i,j,rfl,rfl,q⟩:=h;obtain⟨t,rfl⟩:=rx;obtain⟨t',rfl⟩:=ry;exact in_str (n8 I q rfl)
theorem OpR.or{r r':R2}(h:OpR X f r)(h':OpR X f r'):OpR X f (fun x y H Q=>r x y H Q∨r' x y H Q):=by
 intro pins s σ H x y v u Q I rx ry q
 rcases q with q|q
 · exact h pins s σ H x y v u Q I rx ry q
 · exact h' pins s σ H x y v u Q I rx ry q
theorem a4F{r:R2}(ho:OpR X (compareOp op) r)(ha:PE X a ta)(hb:PE X b tb)(hm:behindInMarks op b=false):PE X (.Compare a [op] [b] pos) (tOp r ta tb):=by
 intro pins s σ H Q I h;exact wpAny_Compare1 (b7u ha hb I h fun v u s2 x y H2 I2 rx ry q=>ho pins s2 σ H2 x y v u Q I2 rx ry q) hm
noncomputable def a9U(t:TE):TT:=fun σ H Q=>t σ H fun x H'=>∃k,x=.bl k/\Q k H'
theorem a4E{r:R2}(ho:OpR X (compareOp op) r)(ha:PE X a ta)(hb:PE X b tb)(hm:behindInMarks op b=false):PT X (.Compare a [op] [b] pos) (a9U (tOp r ta tb)):=by
 intro pins s σ H Q I h
 refine wpAny_isTrue_Compare1 (thn (ha pins s σ H _ I h) fun v s1 ⟨x,H1,I1,r1,q1⟩=>thn (hb pins s1 σ H1 _ I1 q1) fun u s2 ⟨y,H2,I2,r2,q2⟩=>
  thn (ho pins s2 σ H2 x y v u _ I2 r1 r2 q2) fun c s3 ⟨z,H3,I3,r3,k,e,q3⟩=>?_) hm
 subst e;cases r3;exact wpAny_truthy_bool ⟨H3,I3,q3⟩
noncomputable def a6K(r r':R2)(ta tb tc:TE):TE:=fun σ H Q=>ta σ H fun x H1=>tb σ H1 fun y H2=>r x y H2 fun z H3=>∃k,z=.bl k∧
 (if k=true then tc σ H3 fun w' H4=>r' y w' H4 Q else Q (.bl false) H3)
theorem b0S{r r':R2}(ho:OpR X (compareOp op) r)(ho':OpR X (compareOp op') r')(ha:PE X a ta)(hb:PE X b tb)(hc:PE X c tc)
 (hm:lastMarks [op,op'] [b,c]=false:=by with_unfolding_all rfl):PE X (.Compare a [op,op'] [b,c] pos) (a6K r r' ta tb tc):=by
 intro pins s σ H Q I h
 refine Compare_chain (thn (ha pins s σ H _ I h) fun v s1 ⟨x,H1,I1,r1,q1⟩=>chain_link (thn (hb pins s1 σ H1 _ I1 q1) fun u s2 ⟨y,H2,I2,r2,q2⟩=>
  thn (ho pins s2 σ H2 x y v u _ I2 r1 r2 q2) fun d s3 ⟨z,H3,I3,r3,k,e,q3⟩=>?_)) hm
 subst e;cases r3;refine wpAny_truthy_bool ?_
 cases k with
 |false=>exact ite_ff ⟨.bl false,H3,I3,rfl,q3⟩
 |true=>exact ite_tt (chain_last (thn (hc pins s3 σ H3 _ I3 q3) fun w' s4 ⟨z',H4,I4,r4,q4⟩=>ho' pins s4 σ H4 y z' u w' Q I4 r2 r4 q4))
theorem b0A{r r':R2}(ho:OpR X (compareOp op) r)(ho':OpR X (compareOp op') r')(ha:PE X a ta)(hb:PE X b tb)(hc:PE X c tc)
 (hm:lastMarks [op,op'] [b,c]=false:=by with_unfolding_all rfl):PT X (.Compare a [op,op'] [b,c] pos) (a9U (a6K r r' ta tb tc)):=by
 intro pins s σ H Q I h
 refine isTrue_chain (thn (ha pins s σ H _ I h) fun v s1 ⟨x,H1,I1,r1,q1⟩=>test_link (thn (hb pins s1 σ H1 _ I1 q1) fun u s2 ⟨y,H2,I2,r2,q2⟩=>
  thn (ho pins s2 σ H2 x y v u _ I2 r1 r2 q2) fun d s3 ⟨z,H3,I3,r3,k,e,q3⟩=>?_)) hm
 subst e;cases r3;refine wpAny_truthy_bool ?_
 cases k with
 |false=>
  obtain⟨k',e',q'⟩:=q3;cases e';exact ite_ff ⟨H3,I3,q'⟩
 |true=>
  refine ite_tt (test_last (thn (hc pins s3 σ H3 _ I3 q3) fun w' s4 ⟨z',H4,I4,r4,q4⟩=>thn (ho' pins s4 σ H4 y z' u w' _ I4 r2 r4 q4) fun d' s5 zz=>?_))
  obtain⟨z2,H5,I5,r5,k2,e2,q5⟩:=zz;subst e2;cases r5;exact wpAny_truthy_bool ⟨H5,I5,q5⟩
def c0t(K:PySem.W.Frag)(x:V)(H:Hp)(k:Bool):Prop:=
 match x with
 |.non=>k=false
 |.bl b=>k=b
 |.int i=>k=(i !=0)
 |.str y=>y.length<=sizeLine/\k=((y.length:Int) !=0)
 |.byt y=>y.size<=sizeLine/\k=((y.size:Int) !=0)
 |.ref p=>(∃xs,SqL K H p xs/\k=!xs.isEmpty)∨(∃xs,SqT K H p xs/\k=!xs.isEmpty)∨∃kvs,H p=some (.dK kvs)/\k=!kvs.isEmpty
 |_=>False
theorem a7f{κ:Type}{kvs:List (κ×V)}{vs:List (κ×Value)}(r:KV kvs vs):(!vs.isEmpty)=!kvs.isEmpty:=by
 cases r<;>rfl
theorem a3a{xs:List V}(r:i7 xs its):(!its.toArray.isEmpty)=!xs.isEmpty:=by
 cases r<;>simp
theorem a0O:(sizeLine:Nat)<2^63:=by rw[sizeLine_eq];decide
theorem b5u:c1y X (fun x H Q=>∃k,c0t X.K x H k/\Q k H):=by
 intro pins s σ H x v Q I rx h;obtain⟨k,e,q⟩:=h;have hl:=a0O
 have hs:sizeLine=16777216:=sizeLine_eq
 cases x with
 |non=>
  cases rx
  have e':k=false:=e
  subst e';exact truthy_none ⟨H,I,q⟩
 |bl b=>
  cases rx
  have e':k=b:=e
  subst e';exact wpAny_truthy_bool ⟨H,I,q⟩
 |int i=>
  obtain⟨t,rfl⟩:=rx
  have e':k=(i !=0):=e
  subst e';exact PySem.P.truthy_int ⟨H,I,q⟩
 |str y=>
  obtain⟨t,rfl⟩:=rx;obtain⟨hy,e'⟩:y.length<=sizeLine/\k=((y.length:Int) !=0):=e;subst e';exact PySem.P.truthy_str (by omega) ⟨H,I.tok _,q⟩
 |byt y=>
  obtain⟨t,rfl⟩:=rx;obtain⟨hy,e'⟩:y.size<=sizeLine/\k=((y.size:Int) !=0):=e;subst e';exact PySem.W.truthy_bytes (by omega) ⟨H,I.tok _,q⟩
 |ref p=>
  cases rx
  have e':(∃xs,SqL X.K H p xs/\k=!xs.isEmpty)∨(∃xs,SqT X.K H p xs/\k=!xs.isEmpty)∨∃kvs,H p=some (.dK kvs)/\k=!kvs.isEmpty:=e
  rcases e' with⟨xs,hx,e'⟩|⟨xs,hx,e'⟩|⟨kvs,hx,e'⟩
  · subst e';obtain⟨its,r,pl,hz⟩:=I.list hx;have hlen:=r.length;exact wpAny_truthy_list pl.isList (by simp only[size_toArray];omega) ⟨H,I.tok _,by rw[a3a r];exact q⟩
  · subst e';obtain⟨its,r,pl,hz⟩:=I.tuple hx;have hlen:=r.length;exact truthy_tuple pl (by simp only[size_toArray];omega) ⟨H,I.tok _,by rw[a3a r];exact q⟩
  · subst e';obtain⟨hz,hS,vs,r,m⟩:kvs.length<=sizeLine/\(p==sysModules)=false/\∃vs,KV kvs vs/\s.heap.DictOf (n9 X.prog X.w) p vs:=I.hok p _ hx
    have hlen:kvs.length=vs.length:=Paired.length r
    exact wpAny_truthy_dict hS m (by omega) ⟨H,I.tok _,by rw[a7f r];exact q⟩
 |_=>exact(show False from e).elim
theorem b0x(ha:PE X a ta)(he:∀whole,isTrue a X.env whole=(do let v←whole;standAt a.pos;holding [v] (truthy v))):
 PT X a (fun σ H Q=>ta σ H fun x H'=>∃k,c0t X.K x H' k/\Q k H'):=by
 intro pins s σ H Q I h;exact isTrue_plain (thn (ha pins s σ H _ I h) fun v s1 ⟨x,H1,I1,r1,q1⟩=>b5u pins s1 σ H1 x v Q I1 r1 q1) (he _)
theorem a6T:OpR X (binaryOp .Add) (fun x y H Q=>∃i j,x=.str i/\y=.str j/\i.length+j.length<=sizeLine/\Q (.str (i++j)) H):=by
 intro pins s σ H x y v u Q I rx ry h;obtain⟨i,j,rfl,rfl,hz,q⟩:=h;obtain⟨t,rfl⟩:=rx;obtain⟨t',rfl⟩:=ry;exact add_str (fun t' tk=>⟨.str (i++j),H,I.tok _,⟨_,rfl⟩,q⟩) hz
theorem Q0{x:V}(r:i7 [x] us):∃u,us=[u]/\f6 x u:=by
 cases r with
 |cons r1 r2=>cases r2;exact⟨_,rfl,r1⟩
theorem a3A{x:V}(r:i7 [x,y] us):∃u w',us=[u,w']/\f6 x u/\f6 y w':=by
 cases r with
 |cons r1 r2=>
  cases r2 with
  |cons r3 r4=>cases r4;exact⟨_,_,rfl,r1,r3⟩
theorem a9C(hc:X.calm=true):C6 X (.builtin "max") (fun xs H Q=>∃i j,xs=[.int i,.int j]/\Q (.int (if j>i then j else i)) H):=by
 intro pins s σ H xs us Q I r h;obtain⟨i,j,rfl,q⟩:=h;obtain⟨u,w',rfl,⟨t,rfl⟩,⟨t',rfl⟩⟩:=a3A r;refine max_two_ints (I.ok.hd hc) fun h' tk k=>⟨_,H,I.kept k,?_,q⟩
 by_cases hj:j>i
 · rw[ay hj,ay hj];exact⟨_,rfl⟩
 · rw[az hj,az hj];exact⟨_,rfl⟩
theorem a4h:C6 X (.type "int") (fun xs H Q=>(∃i,xs=[.int i]/\Q (.int i) H)∨∃k,xs=[.bl k]/\Q (.int (if k then 1 else 0)) H):=by
 intro pins s σ H xs us Q I r h
 rcases h with⟨i,rfl,q⟩|⟨k,rfl,q⟩
 · obtain⟨u,rfl,t,rfl⟩:=Q0 r;exact call_int_int ⟨.int i,H,I,⟨_,rfl⟩,q⟩
 · obtain⟨u,rfl,r1⟩:=Q0 r;cases r1;exact call_int_bool ⟨.int (if k then 1 else 0),H,I.tok _,⟨_,rfl⟩,q⟩
theorem a5q:C6 X (.type "str") (fun xs H Q=>∃i,xs=[.int i]/\i.natAbs.log2<1920/\Q (.str (toString i)) H):=by
 intro pins s σ H xs us Q I r h;obtain⟨i,rfl,hz,q⟩:=h;obtain⟨u,rfl,t,rfl⟩:=Q0 r;exact PySem.P.str_of_int hz ⟨.str _,H,I.tok _,⟨_,rfl⟩,q⟩
end
structure ObjM(h:Heap)(x dx C:Addr)(mA:Str->Option Value):Prop where
 obj:h.get? x=some (PySem.W.instObj C dx)
 ns:h.Ns1 dx mA
 ne:dx≠x
variable{dx:Addr}{mA:Str->Option Value}
theorem a9h(n:h.Ns1 dx mA):∃od,h.get? dx=some od/\∀name,PySem.W.lookIn name od=some (mA name):=by
 obtain⟨o,es,ep,ho,hd,hk,_,hm⟩:=n;refine⟨o,ho,fun name=>?_⟩
 have e:=hm name;unfold nsFind findBy at e;rw[←Array.find?_toList] at e
 unfold PySem.W.lookIn;rw[hd]
 dsimp only
 split
 · rename_i y q;rw[q] at e;exact congrArg some e
 · rename_i q;rw[q] at e
   have a:es.toList.any (·.refKey)=false:=by
    rw[List.any_eq_false];intro y hy;obtain⟨z,t,hkey⟩:=hk y (Array.mem_toList_iff.mp hy);simp[DictEntry.refKey,hkey]
   have a':¬es.toList.any (·.refKey)=true:=by rw[a];exact bv
   rw[az a'];exact congrArg some e
variable{C:Addr}
theorem ObjM.look{x:Addr}(I:ObjM h x dx C mA):∃od,PySem.W.InstAt h x (PySem.W.instObj C dx) C (some od)/\∀name,PySem.W.lookIn name od=some (mA name):=
 let⟨od,ho,hl⟩:=a9h I.ns
 ⟨od,⟨I.obj,rfl,rfl,ho⟩,hl⟩
variable{expr:Bool}{vs:List Value}{kw:List (Str×Value)}
section
variable{prog:Program}{E:Value->Shared->Prop}{s:Shared}{x f:Addr}{name:Str}{v:Value}
theorem b4k(X:K.In s.heap)(I:ObjM s.heap x dx C mA)(hg:PySem.W.plainGet K C name=true)(hh:PySem.W.hasDictIn K C=true)
 (ha:PySem.W.findIn K (.ref C) name=some none) (hv:mA name=some v) (hv':PySem.W.handedIn v=true) (h:Q v {s with toks:=s.toks+1}):
 wpAny (model prog w) A (getAttr (.ref x) name expr) Q E s:=by
 obtain⟨od,J,hl⟩:=I.look;exact PySem.W.get_value X J (PySem.W.plainGet_of hg).1 (PySem.W.findObj_own hh ha rfl (by rw[hl,hv])) hv' h
theorem b3e{ns:List Str}{Q:Unit->Shared->Prop}(X:K.In s.heap)(I:ObjM s.heap x dx C mA)
 (hs:PySem.W.findIn K (.ref C) "__setattr__"=some (some (.builtin "object.__setattr__"))) (hp:PySem.W.plainOver K C=true) (ht:PySem.W.takerIn K C name=some none) (hh:PySem.W.hasDictIn K C=true)
 (hw:PySem.Within mA ns) (hsz:ns.length<=sizeLine)
 (h:∀h',ObjM h' x dx C (fun y=>if y=name then some v else mA y)->Heap.SameBut dx s.heap h'->Q () {s with heap:=h',toks:=s.toks+2}):
 wpAny (model prog w) A (setAttr (.ref x) name v) Q E s:=by
 obtain⟨od,J,hl⟩:=I.look;refine PySem.W.set_plain X J hs (PySem.W.osa_open (s:={s with toks:=s.toks+1}) (r:=none) X J hp ht fun b=>?_)
 obtain⟨cd,hc,hd'⟩:=PySem.W.any_some hh
 have hx:s.heap.get? x=some ⟨.ref C,some dx,.plain,#[]⟩:=I.obj
 refine wpAny_bind (wpAny_pure (wpAny_bind (wpAny_bind (wpAny_loadPart hx (wpAny_bind (PySem.W.Looks.here (s:={s with toks:=s.toks+1}) (PySem.W.looks_clsIn X hc) ?_))))))
 rw[hd'];refine wpAny_pure (a:=some dx) (wpAny_bind (wpAny_pure (wpAny_bind ?_)))
 refine wpAny_nsSet1 (s:={s with toks:=s.toks+1}) I.ns fun h' hn2 hs2=>?_
 obtain⟨oD,esD,epD,hoD,hdD,hcD⟩:=hn2.count (PySem.Within.cons name v hw);refine wpAny_bind (wpAny_lookBehind hoD (by rw[hdD];exact pastItsLine_dict (aU hcD (by rw[length_cons];omega))) ?_)
 exact wpAny_pure (h _ ⟨(hs2.2 _ (Ne.symm I.ne)).trans I.obj,hn2,I.ne⟩ hs2)
theorem b1d{R:Result->Shared->Prop}(X:K.In s.heap)(hm:PySem.W.makesIn K C=true)
 (hi:PySem.W.findIn K (.ref C) "__init__"=some (~~~f)) (hf:PySem.W.typeIn K (.ref f)=some (.type "function"))
 (h:codeAny (model prog w) (A.under (.builtin "type.__call__" ⟨.ref C::vs,kw⟩)) (.call (.ref f) ⟨.ref (s.heap.objs.size+1)::vs,kw⟩) (PySem.W.InitBack (s.heap.objs.size+1) R)
  {s with heap:=(s.heap.push PySem.W.emptyDict).push (PySem.W.instObj C s.heap.objs.size)}):
 codeAny (model prog w) A (.call (.ref C) ⟨vs,kw⟩) R s:=by
 obtain⟨hh,g,d,t,os⟩:=s;exact PySem.W.make_core (PySem.W.makes_of X hm) (PySem.W.looks_findIn X hi) (fun self=>PySem.W.bind_fn X self hf) (.inl rfl) h
end
noncomputable def V7(f:Str)(v:V):List (Str×V)->List (Str×V)
 |[]=>[(f,v)]
 |(g,x)::r=>if g=f then(g,v)::r else(g,x)::V7 f v r
theorem a1T(f g:Str)(v:V):∀fs:List (Str×V),(V7 f v fs).lookup g=if g=f then some v else fs.lookup g
 |[]=>by
  show List.lookup g [(f,v)]=_
  by_cases h:g=f
  · have hb:(g==f)=true:=beq_iff_eq.mpr h
    simp only[List.lookup,hb,ay h]
  · have hb:(g==f)=false:=beq_eq_false_iff_ne.mpr h
    simp only[List.lookup,hb,az h]
 | (k,x)::r=>by
  have ih:=a1T f g v r;rw[show V7 f v ((k,x)::r)=(if k=f then(k,v)::r else(k,x)::V7 f v r) from rfl]
  by_cases hk:k=f
  · rw[ay hk]
    by_cases h:g=k
    · have hb:(g==k)=true:=beq_iff_eq.mpr h
      simp only[List.lookup,hb,ay (h.trans hk)]
    · have hb:(g==k)=false:=beq_eq_false_iff_ne.mpr h
      simp only[List.lookup,hb,az (fun e:g=f=>h (e.trans hk.symm))]
  · rw[az hk]
    by_cases h:g=k
    · have hb:(g==k)=true:=beq_iff_eq.mpr h
      simp only[List.lookup,hb,az (fun e:g=f=>hk (h.symm.trans e))]
    · have hb:(g==k)=false:=beq_eq_false_iff_ne.mpr h
      simp only[List.lookup,hb];exact ih
theorem a1C(f:Str)(v:V):∀fs:List (Str×V),f∈(V7 f v fs).map (·.1)/\∀g,g∈fs.map (·.1)->g∈(V7 f v fs).map (·.1)
 |[]=>⟨by simp[V7],fun g h=>by simp at h⟩
 | (k,x)::r=>by
  obtain⟨i1,i2⟩:=a1C f v r;rw[show V7 f v ((k,x)::r)=(if k=f then(k,v)::r else(k,x)::V7 f v r) from rfl]
  by_cases hk:k=f
  · rw[ay hk];subst hk;exact⟨by simp,fun g h=>by simpa using h⟩
  · rw[az hk];refine⟨?_,fun g h=>?_⟩
    · rw[map_cons];exact aD _ i1
    · rw[map_cons] at h⊢
      rcases aE.mp h with e|e
      · exact aE.mpr (.inl e)
      · exact aD _ (i2 g e)
theorem a1U(f:Str)(v:V):∀fs:List (Str×V),(V7 f v fs).length<=fs.length+1
 |[]=>by simp[V7]
 |(k,x)::r=>by
  have ih:=a1U f v r;rw[show V7 f v ((k,x)::r)=(if k=f then(k,v)::r else(k,x)::V7 f v r) from rfl]
  by_cases hk:k=f
  · rw[ay hk,length_cons,length_cons];omega
  · rw[az hk,length_cons,length_cons];omega
theorem a0y.some_of{o:Option Value}(r:a0y (some v) o):∃u,o=some u/\f6 v u:=by
 cases o with
 |none=>exact(show False from r).elim
 |some u=>exact⟨u,rfl,r⟩
theorem a9q(r:f6 v u):PySem.W.handedIn u=true:=by
 cases v with
 |non=>cases (show u=Value.none from r);rfl
 |bl b=>cases (show u=Value.bool b from r);rfl
 |int i=>obtain⟨t,e⟩:=(show∃t,u=Value.int i t from r);cases e;rfl
 |str x=>obtain⟨t,e⟩:=(show∃t,u=Value.str x t from r);cases e;rfl
 |byt b=>obtain⟨t,e⟩:=(show∃t,u=Value.bytes b t from r);cases e;rfl
 |flt b=>obtain⟨t,e⟩:=(show∃t,u=Value.float b t from r);cases e;rfl
 |ref a=>cases (show u=Value.ref a from r);rfl
 |ty n=>cases (show u=Value.type n from r);rfl
section
variable{fs fs':List (Str×V)}
theorem a4Y(hok:HOk P w H h)(e:H a=some (.ins C dx fs)):∃mA,ObjM h a dx C mA/\(∀f,a0y (fs.lookup f) (mA f))/\PySem.Within mA (fs.map (·.1))/\fs.length<=1000/\H dx=some (.own a):=by
 obtain⟨d,z,ne,ob,mA,n,r,q⟩:=(show p0 P w H h a (.ins C dx fs) from hok a _ e);exact⟨mA,⟨ob,n,ne⟩,r,q,z,d⟩
end
structure Cls(K:PySem.W.Frag)(C:Addr):Prop where
 pg:PySem.W.plainGet K C Str.empty=true
 hd:PySem.W.hasDictIn K C=true
 po:PySem.W.plainOver K C=true
 sa:PySem.W.findIn K (.ref C) "__setattr__"=some (some (.builtin "object.__setattr__"))
theorem Cls.get(c:Cls K C)(f:Str):PySem.W.plainGet K C f=true:=c.pg
def a0i(K:PySem.W.Frag)(C:Addr)(f:Str):Prop:=PySem.W.findIn K (.ref C) f=some none
theorem a0i.taker{f:Str}(n:a0i K C f):PySem.W.takerIn K C f=some none:=by
 unfold PySem.W.takerIn;rw[show PySem.W.findIn K (.ref C) f=some none from n];rfl
variable{prog:Program}{env:Env}
section
variable{s:Shared}{fs:List (Str×V)}{f:Str}{E:Value->Shared->Prop}
theorem a7k{b:Bool}(I:Inv X pins σ H s)(e:H a=some (.ins C dx fs))(c:Cls X.K C)(n:a0i X.K C f)(l:fs.lookup f=some v)
 (h:∀u s',Inv X pins σ H s'->f6 v u->Q u s'):wpAny (model X.prog X.w) A (getAttr (.ref a) f b) Q E s:=by
 obtain⟨mA,O,r,_,_,_⟩:=a4Y I.hok e;obtain⟨u,hu,ru⟩:=a0y.some_of (v:=v) (o:=mA f) (by rw[←l];exact r f)
 exact b4k I.kIn O (c.get f) c.hd n hu (a9q ru) (h u _ (I.tok _) ru)
theorem a6P{Q:Unit->Shared->Prop}(I:Inv X pins σ H s)(e:H a=some (.ins C dx fs))(c:Cls X.K C)(n:a0i X.K C f)(hl:fs.length<1000)(ry:f6 y u)
 (h:∀s',Inv X pins σ (upd H a (.ins C dx (V7 f y fs))) s'->Q () s'):wpAny (model X.prog X.w) A (setAttr (.ref a) f u) Q E s:=by
 obtain⟨mA,O,r,wi,_,ho⟩:=a4Y I.hok e
 have hz:(fs.map (·.1)).length<=sizeLine:=by rw[aa,sizeLine_eq];omega
 refine b3e I.kIn O c.sa c.po n.taker c.hd wi hz fun h' O' sb=>h _ ?_
 have hd:∃o,h'.get? dx=some o:=let⟨o,_,_,e',_⟩:=O'.ns;⟨o,e'⟩
 refine I.write (x:=a) (e:=dx) (by rw[e];exact True.intro) (.inr ho) (fun b q hb z=>(sb.2 b hb).trans z) hd ?_
 refine⟨by rw[c9 O.ne];exact ho,?_,O.ne,O'.obj,_,O'.ns,fun g=>?_,fun g hg=>?_⟩
 · have:=a1U f y fs;omega
 · show a0y ((V7 f y fs).lookup g) (if g=f then some u else mA g)
   rw[a1T]
   by_cases q:g=f
   · rw[ay q,ay q];exact ry
   · rw[az q,az q];exact r g
 · by_cases q:g=f
   · rw[q];exact(a1C f y fs).1
   · refine(a1C f y fs).2 g (wi g fun z=>hg ?_)
     show(if g=f then some u else mA g)=none
     rw[az q];exact z
theorem Inv.made(I:Inv X pins σ H s):Inv X pins σ (upd (upd H s.heap.objs.size (.own (s.heap.objs.size+1))) (s.heap.objs.size+1) (.ins C s.heap.objs.size []))
 {s with heap:=(s.heap.push PySem.W.emptyDict).push (PySem.W.instObj C s.heap.objs.size)}:=by
 have e1:(s.heap.push PySem.W.emptyDict).get? s.heap.objs.size=some PySem.W.emptyDict:=Heap.get?_push_size s.heap rfl
 have e2:((s.heap.push PySem.W.emptyDict).push (PySem.W.instObj C s.heap.objs.size)).get? (s.heap.objs.size+1)=some (PySem.W.instObj C s.heap.objs.size):=by
  have:=Heap.get?_push_size (s.heap.push PySem.W.emptyDict) (o:=PySem.W.instObj C s.heap.objs.size) rfl
  rwa [Heap.size_push] at this
 have e3:(s.heap.push PySem.W.emptyDict).Ns s.heap.objs.size (fun _=>none):=⟨PySem.W.emptyDict,#[],_,e1,rfl,(fun e he=>absurd he (by simp)),fun _=>rfl⟩
 have I1:=I.laid (a:=s.heap.objs.size) (o:=.own (s.heap.objs.size+1)) (h':=s.heap.push PySem.W.emptyDict) (t':=s.toks) (fun b u q=>Heap.get?_push_of_some _ q) (ai _) ⟨_,e1⟩
 refine I1.laid (a:=s.heap.objs.size+1) (o:=.ins C s.heap.objs.size []) (t':=s.toks) (fun b u q=>Heap.get?_push_of_some _ q) (Nat.le_of_eq (Heap.size_push _ _)) ?_
 have ne:s.heap.objs.size≠s.heap.objs.size+1:=Nat.ne_of_lt (aV _)
 refine⟨by rw[c9 ne,b8],Nat.zero_le _,ne,e2,fun _=>none,(Heap.Ns1.of_empty e3).at fun o q=>Heap.get?_push_of_some _ q,fun _=>True.intro,fun y hy=>absurd rfl hy⟩
theorem b4V{f:Str}{s:Shared}(hb:attributeBase e f env (eval e env)=eval e env)
 (h:wpAny (model prog w) A (eval e env) (fun o s₁=>wpAny (model prog w) A (getAttr o f true) Q E s₁) E s):wpAny (model prog w) A (eval (.Attribute e f pos) env) Q E s:=
 Attribute_any_ h (by rw[arm_eval_Attribute,hb])
end
noncomputable def c0F(K:PySem.W.Frag)(ta:TE)(f:Str):TE:=fun σ H Q=>ta σ H fun x H1=>∃a C dx fs v,x=.ref a/\H1 a=some (.ins C dx fs)/\Cls K C/\a0i K C f/\fs.lookup f=some v/\Q v H1
def c0I(K:PySem.W.Frag)(ta tv:TE)(f:Str):TS:=fun D σ H=>tv σ H fun y H1=>ta σ H1 fun x H2=>∃a C dx fs,x=.ref a/\H2 a=some (.ins C dx fs)/\Cls K C/\a0i K C f/\fs.length<1000∧
 D.nx σ (upd H2 a (.ins C dx (V7 f y fs)))
variable{apos:Pos}
section
variable{o value:Expr}{f:Str}{tpos:Pos}{ta tv:TE}
theorem b6j(he:PE X e ta)(hb:attributeBase e f X.env (eval e X.env)=eval e X.env):PE X (.Attribute e f pos) (c0F X.K ta f):=by
 intro pins s σ H Q I h;refine b4V hb (thn (he pins s σ H _ I h) fun u s1 zz=>?_)
 obtain⟨x,H1,I1,rx,a,C,dx,fs,v,ex,ea,c,n,l,q⟩:=zz;subst ex;obtain rfl:u=Value.ref a:=rx;exact a7k I1 ea c n l fun u' s2 I2 ru=>⟨v,H1,I2,ru,q⟩
theorem b5T(ha:PE X o ta)(hv:PE X value tv)(hs:swapsWith value (some (.Attribute o f pos')) pos.line X.env=pure false):PS X (.Assign [.Attribute o f pos'] value pos) (c0I X.K ta tv f):=by
 intro pins s σ H D I h;refine plainObj_wpAny_Assign_Attribute (thn (hv pins s σ H _ I h) fun u s1 ⟨y,H1,I1,ry,q⟩=>thn (ha pins s1 σ H1 _ I1 q) fun ov s2 zz=>?_) hs
 obtain⟨x,H2,I2,rx,a,C,dx,fs,ex,ea,c,n,l,q2⟩:=zz;subst ex;obtain rfl:ov=Value.ref a:=rx;exact a6P I2 ea c n l ry fun s3 I3=>⟨σ,_,I3,q2⟩
end
section
variable{s:Shared}{E:Value->Shared->Prop}{c:Value}{b:Bool}
inductive TyOf(K:PySem.W.Frag)(H:Hp):V->Value->Prop where
 |non:TyOf K H .non (.type "NoneType")
 |bl (x:Bool):TyOf K H (.bl x) (.type "bool")
 |int (i:Int):TyOf K H (.int i) (.type "int")
 |str (x:Str):TyOf K H (.str x) (.type "str")
 |flt (x:UInt64):TyOf K H (.flt x) (.type "float")
 |lst {a:Addr} {xs:List V} (e:H a=some (.lst xs)):TyOf K H (.ref a) (.type "list")
 |frz {a:Addr} {o:Obj} {xs:List V} (e:H a=some (.frz o (.lst xs))):TyOf K H (.ref a) (.type "list")
 |tup {a:Addr} {xs:List V} (e:H a=some (.tup xs)):TyOf K H (.ref a) (.type "tuple")
 |dK {a:Addr} {kvs:List (Key×V)} (e:H a=some (.dK kvs)):TyOf K H (.ref a) (.type "dict")
 |dT {a:Addr} {kvs:List (List Key×V)} (e:H a=some (.dT kvs)):TyOf K H (.ref a) (.type "dict")
 |ins {a C dx:Addr} {fs:List (Str×V)} (e:H a=some (.ins C dx fs)) (cl:Cls K C) (ha:PySem.W.findIn K (.ref C) "__class__"=some (some (.builtin "object.__class__")))
  (hn:PySem.W.specialIn K (.builtin "object.__class__") "__get__"=some (some (.builtin "getset_descriptor.__get__"))) (htk:PySem.W.takesIn K (.builtin "object.__class__")=some true)
  (hm:PySem.W.mroIn K C (.type "object")=some true):TyOf K H (.ref a) (.ref C)
theorem a9m{x:V}{t:Value}(I:Inv X pins σ H s)(rx:f6 x u)(ty:TyOf X.K H x t)(e:PySem.W.kitOne X.K t c=some b)(h:∀tk,Q (.bool b) {s with toks:=tk}):
 wpAny (model X.prog X.w) A (call (.builtin "isinstance") [u,c]) Q E s:=by
 cases ty with
 |non=>cases (show u=Value.none from rx);exact PySem.W.kia_one PySem.W.kitx_none I.kIn True.intro e (fun z=>nomatch z) h
 |bl y=>cases (show u=Value.bool y from rx);exact PySem.W.kia_one PySem.W.kitx_bool I.kIn True.intro e (fun z=>nomatch z) h
 |int i=>obtain⟨t,q⟩:=(show∃t,u=Value.int i t from rx);cases q;exact PySem.W.kia_one PySem.W.kitx_int I.kIn True.intro e (fun z=>nomatch z) h
 |str y=>obtain⟨t,q⟩:=(show∃t,u=Value.str y t from rx);cases q;exact PySem.W.kia_one PySem.W.kitx_str I.kIn True.intro e (fun z=>nomatch z) h
 |flt y=>obtain⟨t,q⟩:=(show∃t,u=Value.float y t from rx);cases q;exact PySem.W.kia_one PySem.W.kitx_float I.kIn True.intro e (fun z=>nomatch z) h
 | @lst a xs ea=>
  cases (show u=Value.ref a from rx)
  obtain⟨_,_,n,_,h1⟩:=(show p0 X.prog X.w H s.heap a (.lst xs) from I.hok a _ ea);exact PySem.W.kia_one PySem.W.kitx_list I.kIn ⟨_,h1,rfl⟩ e (fun z=>nomatch z) h
 | @frz a ob xs ea=>
  cases (show u=Value.ref a from rx)
  obtain⟨_,_,_,n,_,h1⟩:=(show p0 X.prog X.w H s.heap a (.frz ob (.lst xs)) from I.hok a _ ea);exact PySem.W.kia_one PySem.W.kitx_list I.kIn ⟨_,h1,rfl⟩ e (fun z=>nomatch z) h
 | @tup a xs ea=>
  cases (show u=Value.ref a from rx)
  obtain⟨_,_,_,p⟩:=(show p0 X.prog X.w H s.heap a (.tup xs) from I.hok a _ ea);obtain⟨o,h1,h2,_⟩:=p;exact PySem.W.kia_one PySem.W.kitx_tuple I.kIn ⟨o,h1,h2⟩ e (fun z=>nomatch z) h
 | @dK a kvs ea=>
  cases (show u=Value.ref a from rx)
  obtain⟨_,_,vs,_,p⟩:=(show p0 X.prog X.w H s.heap a (.dK kvs) from I.hok a _ ea);obtain⟨o,es,ep,h1,h2,_⟩:=p;exact PySem.W.kia_one PySem.W.kitx_dict I.kIn ⟨o,h1,h2.1⟩ e (fun z=>nomatch z) h
 | @dT a kvs ea=>
  cases (show u=Value.ref a from rx)
  obtain⟨_,_,xs,_,o,es,ep,h1,h2,_⟩:=(show p0 X.prog X.w H s.heap a (.dT kvs) from I.hok a _ ea);exact PySem.W.kia_one PySem.W.kitx_dict I.kIn ⟨o,h1,h2.1⟩ e (fun z=>nomatch z) h
 | @ins a C dx fs ea cl ha hn htk hm=>
  cases (show u=Value.ref a from rx)
  obtain⟨mA,O,_⟩:=a4Y I.hok ea;obtain⟨od,J,_⟩:=O.look;exact PySem.W.kia_one (PySem.W.kitx_own (cl.get _) cl.hd ha hn htk hm) I.kIn J e (fun z=>nomatch z) h
end
structure Room(k:Nat)(A:Around):Prop where
 hd:A.handled=none
 dp:A.depth+3*k+5<recursionLimit
 un:A.units+16*k+200<cLine
theorem Room.mono{k:Nat}(r:Room k A)(h:j<=k):Room j A:=⟨r.hd,by have:=r.dp;omega,by have:=r.un;omega⟩
theorem Room.deeper{k:Nat}(r:Room (k+1) A)(env:Env):Room k (A.deeper env):=
 ⟨r.hd,by have:=r.dp;show A.depth+1+3*k+5<_;omega,by have:=r.un;show A.units+3+16*k+200<_;omega⟩
theorem a7a:(A.under (.builtin "type.__call__" ⟨.ref C::us,kw⟩)).depth=A.depth+1:=by
 first|rfl|simp[Around.under,Code.weight,Code.isCreation,Code.isGuard,Code.isCaller,Code.frames,Code.isFrame,guardIds]
theorem a6Z:(A.under (.builtin "type.__call__" ⟨.ref C::us,kw⟩)).units=A.units+1:=by
 first|rfl|simp[Around.under,Code.cUnits,Code.frames,Code.isFrame]
theorem Room.make{k:Nat}(r:Room (k+1) A)(C:Addr)(us:List Value)(kw:List (Str×Value)):Room k (A.under (.builtin "type.__call__" ⟨.ref C::us,kw⟩)):=
 ⟨r.hd,by have:=r.dp;rw[a7a];omega,by have:=r.un;rw[a6Z];omega⟩
theorem Room.depth{k:Nat}(r:Room k A):A.depth<recursionLimit:=by have:=r.dp;omega
theorem Room.units{k:Nat}(r:Room k A):A.units+64<cLine:=by have:=r.un;omega
def b2S:TA:=fun _ H Q=>Q [] H
noncomputable def a5G(ta:TE)(tr:TA):TA:=fun σ H Q=>ta σ H fun x H1=>tr σ H1 fun xs H2=>Q (x::xs) H2
section
variable{es:List Expr}{t:TA}
theorem Z1:PA X [] b2S:=fun _ _ _ _ H Q I h=>Calls.spliced_nil ⟨[],H,I,.nil,h⟩
theorem G0(ha:PE X e te)(hr:PA X es t)(hs:starEach (e::es) X.env=(false,eval e X.env)::starEach es X.env:=by rfl):PA X (e::es) (a5G te t):=by
 intro pos pins s σ H Q I h;rw[hs]
 show wpAny _ _ (spliced ((false,eval e X.env)::backTo pos (starEach es X.env))) _ _ s
 refine Calls.spliced_cons (thn (ha pins s σ H _ I h) fun u s1 zz=>?_)
 obtain⟨x,H1,I1,r1,q1⟩:=zz;exact thn (hr pos pins s1 σ H1 _ I1 q1) fun us s2 ⟨xs,H2,I2,r2,q2⟩=>⟨x::xs,H2,I2,.cons r1 r2,q2⟩
def c0v(t:TA):TE:=fun σ H Q=>t σ H fun xs H1=>xs.length<=sizeLine/\∀p,H1 p=none->Q (.ref p) (upd H1 p (.tup xs))
def c0B(t:TA):TE:=fun σ H Q=>t σ H fun xs H1=>xs.length<=sizeLine/\∀p,H1 p=none->Q (.ref p) (upd H1 p (.lst xs))
theorem b6d{x1}(h:PA X es t):PE X (.Tuple es x1 pos) (c0v t):=by
 intro pins s σ H Q I hq;refine wpAny_Tuple_spliced (thn (h pos pins s σ H _ I hq) fun us s1 ⟨xs,H1,I1,r,z,q⟩=>⟨by rw[←r.length];exact z,?_⟩)
 have hf:H1 s1.heap.objs.size=none:=I1.hok.fresh (ai _)
 refine⟨.ref s1.heap.objs.size,upd H1 s1.heap.objs.size (.tup xs),I1.laid (t':=s1.toks) (fun b u e=>Heap.get?_push_of_some _ e) (ai _) ?_,rfl,q _ hf⟩
 exact⟨z,us,r,⟨_,Heap.get?_push_size _ rfl,rfl,rfl,_,rfl⟩⟩
theorem b6i(h:PA X es t):PE X (.List es pos) (c0B t):=by
 intro pins s σ H Q I hq;refine wpAny_List_spliced (thn (h pos pins s σ H _ I hq) fun us s1 ⟨xs,H1,I1,r,z,q⟩=>⟨by rw[←r.length];exact z,?_⟩)
 have hf:H1 s1.heap.objs.size=none:=I1.hok.fresh (ai _)
 refine⟨.ref s1.heap.objs.size,upd H1 s1.heap.objs.size (.lst xs),I1.laid (t':=s1.toks) (fun b u e=>Heap.get?_push_of_some _ e) (ai _) ?_,rfl,q _ hf⟩
 exact⟨z,us,0,r,Heap.get?_push_size _ rfl⟩
end
abbrev Sp:=List V->Hp->VK->XK->Prop
abbrev CXT:=List Env->Hp->Shared->XK->Value->Shared->Prop
structure Env0(P:Program)(w:World)(K:PySem.W.Frag)(mg:Str->Option Value)(base:Heap)(A:Around)(outer:List Env)(s:Shared)(H:Hp):Prop where
 frames:A.frames=some outer
 mod:Mod K mg base
 bs:∀b o,base.get? b=some o->s.heap.get? b=some o/\H b=none
 bsz:base.objs.size<=s.heap.objs.size
 funs:s.heap.FunFrames base outer
 frf:∀b∈frs outer,H b=none
 hok:HOk P w H s.heap
 bare:AllBare s.gens
def CE(outer:List Env)(P:Program)(w:World)(H:Hp)(s:Shared)(Q:VK)(u:Value)(s':Shared):Prop:=
 ∃v H',s'.os=s.os/\AllBare s'.gens/\Un (frs outer) [] H H' s.heap s'.heap/\HOk P w H' s'.heap/\f6 v u/\Q v H'
def CR(CX:CXT)(outer:List Env)(P:Program)(w:World)(H:Hp)(s:Shared)(Q:VK)(E:XK)(r:Result)(s':Shared):Prop:=
 match r with
 |.ok (.ret u)=>CE outer P w H s Q u s'
 |.ok _=>False
 |.error e=>CX outer H s E e s'
structure FnOk(P:Program)(w:World)(K:PySem.W.Frag)(mg:Str->Option Value)(base:Heap)(CX:CXT)(k:Nat)(f:Addr)(fd:FuncData)(ps:List Str)(sp:Sp):Prop where
 len:∀vs H Q E,sp vs H Q E->vs.length=ps.length
 run:∀(A:Around) (outer:List Env) (s:Shared) (H:Hp) (args:Args) (us:List Value) (vs:List V) (Q:VK) (E:XK),Room k A->Env0 P w K mg base A outer s H->BindsTo s fd args (ps.zip us)->i7 vs us->sp vs H Q E→
  codeAny (model P w) A (.call (.ref f) args) (CR CX outer P w H s Q E) s
variable{mg:Str->Option Value}{base:Heap}{CX:CXT}{fd:FuncData}{ps:List Str}{sp:Sp}{outer:List Env}
theorem Env0.make{s:Shared}(e:Env0 P w K mg base A outer s H)(C:Addr)(us:List Value)(kw:List (Str×Value)):
 Env0 P w K mg base (A.under (.builtin "type.__call__" ⟨.ref C::us,kw⟩)) outer s H:=⟨by first|exact e.frames|(simpa [Around.under,Code.envs,Code.isFrame,pushEnvs] using e.frames),e.mod,e.bs,e.bsz,e.funs,e.frf,e.hok,e.bare⟩
section
variable{s:Shared}
theorem Inv.env0(I:Inv X pins σ H s):Env0 X.prog X.w X.K X.mg X.base X.A X.stack s H:=
 ⟨I.ok.frames,I.ok.mod,I.bs,aU I.ok.bsz I.sz,I.stack,I.stkFree,I.hok,I.bare⟩
theorem Inv.after{Q:VK}(I:Inv X pins σ H s)(h:CE X.stack X.prog X.w H s Q u s'):EP X pins σ Q u s':=by
 obtain⟨v,H',os,bare,un,hok,r,q⟩:=h;obtain⟨hh,g,d,t,os'⟩:=s';obtain rfl:os'=s.os:=os;exact⟨v,H',I.call (h':=hh) (g':=g) (d':=d) (t':=t) (ch:=[]) un hok bare (fun b z=>absurd z (by simp)),r,q⟩
end
noncomputable def b8h(sp:Sp)(dvs:List V)(E:XK)(t:TA):TE:=fun σ H Q=>t σ H fun vs H1=>sp (vs++dvs) H1 Q E
def b8e(C:Addr)(sp:Sp)(dvs:List V)(E:XK)(t:TA):TE:=fun σ H Q=>t σ H fun vs H1=>∀x dx,H1 x=none->H1 dx=none->dx≠x→
 sp (.ref x::(vs++dvs)) (upd (upd H1 dx (.own x)) x (.ins C dx [])) (fun v H2=>v=.non/\Q (.ref x) H2) E
def T7(K:PySem.W.Frag)(fd:FuncData)(ps:List Str)(ds:List Value):Prop:=
 ∀(s:Shared) (us:List Value),K.In s.heap->(us++ds).length=ps.length->BindsTo s fd ⟨us,[]⟩ (ps.zip (us++ds))
theorem T7.all(h:∀us:List Value,us.length=ps.length->bindArgs fd ⟨us,[]⟩=pure (ps.zip us)):T7 K fd ps []:=fun s us _ hl=>by
 rw[bh] at hl⊢;exact .of_eq (h us hl)
def a3m(CX:CXT)(X:Cx)(E:XK):Prop:=∀(pins:List (Addr×Obj)) (σ:St) (H:Hp) (s:Shared) (e:Value) (s':Shared),Inv X pins σ H s->CX X.stack H s E e s'->X.xe e s'
section
variable{k:Nat}{f:Addr}{dvs:List V}{ds:List Value}{E:XK}{m:Str}{o:Expr}{es:List Expr}{ta:TE}{t:TA}
theorem b5F{s:Shared}{Q:VK}{vs:List V}(F:FnOk X.prog X.w X.K X.mg X.base CX k f fd ps sp)(hr:Room k X.A)(hb:T7 X.K fd ps ds)(hd:i7 dvs ds)(hx:a3m CX X E)
 (I:Inv X pins σ H s) (r:i7 vs us) (h:sp (vs++dvs) H Q E):wpAny (model X.prog X.w) X.A (call (.ref f) us) (EP X pins σ Q) X.xe s:=by
 have r2:i7 (vs++dvs) (us++ds):=r.append hd
 have hl:(us++ds).length=ps.length:=by rw[←r2.length];exact F.len _ _ _ _ h
 refine wpAny_call (codeAny_mono (F.run X.A X.stack s H ⟨us,[]⟩ (us++ds) (vs++dvs) Q E hr I.env0 (hb s us I.kIn hl) r2 h) fun r s' hq=>?_)
 cases r with
 |error e=>exact hx pins σ H s e s' I hq
 |ok fl=>
  cases fl with
  |ret u=>exact I.after hq
  |next=>exact False.elim hq
  |brk=>exact False.elim hq
  |cont=>exact False.elim hq
theorem b3B(F:FnOk X.prog X.w X.K X.mg X.base CX k f fd ps sp)(hr:Room k X.A)(hg:Gl X x)(hm:X.mg x= ~~~f)(hk:PySem.W.keepIn X.K (.ref f)=true)(hb:T7 X.K fd ps ds)(hd:i7 dvs ds)(hx:a3m CX X E)
 (ha:PA X (e::es) t) (hdb:(x==("__debug__":Str))=false:=by decide) (he:starEach (e::es) X.env=(false,eval e X.env)::starEach es X.env:=by rfl) (hpl:(backTo pos (starEach es X.env)).any (·.1)=false:=by rfl):
 PE X (.Call (.Name x p) (e::es) [] pos) (b8h sp dvs E t):=by
 intro pins s σ H Q I h;refine wpAny_Call_Name_kw (a4R I hg hm ?_ hdb)
 refine PySem.W.callWith_K (h₀:=X.base) I.ok.mod.kin hk (thn (ha pos pins s σ H _ I h) fun us s1 ⟨vs,H1,I1,r,q⟩=>⟨I1.kIn,?_⟩) he hpl
 exact b5F F hr hb hd hx I1 r q
structure Mk(K:PySem.W.Frag)(C f:Addr):Prop where
 makes:PySem.W.makesIn K C=true
 init:PySem.W.findIn K (.ref C) "__init__"=some (~~~f)
 fn:PySem.W.isFn K (.ref f)=true
 kp:PySem.W.keepIn K (.ref C)=true
theorem b0h{s:Shared}{Q:VK}{vs:List V}(M:Mk X.K C f)(F:FnOk X.prog X.w X.K X.mg X.base CX k f fd ps sp)(hr:Room (k+1) X.A)(hb:T7 X.K fd ps ds)(hd:i7 dvs ds)
 (hx:a3m CX X E) (I:Inv X pins σ H s) (r:i7 vs us)
 (h:∀x dx,H x=none->H dx=none->dx≠x->sp (.ref x::(vs++dvs)) (upd (upd H dx (.own x)) x (.ins C dx [])) (fun v H2=>v=.non/\Q (.ref x) H2) E):
 wpAny (model X.prog X.w) X.A (call (.ref C) us) (EP X pins σ Q) X.xe s:=by
 have hq:=h (s.heap.objs.size+1) s.heap.objs.size (I.hok.fresh (Nat.le_succ _)) (I.hok.fresh (ai _)) (Nat.ne_of_lt (aV _));have I2:=Inv.made (C:=C) I
 have r2:i7 (V.ref (s.heap.objs.size+1)::(vs++dvs)) (Value.ref (s.heap.objs.size+1)::(us++ds)):=.cons rfl (r.append hd)
 have hl:(Value.ref (s.heap.objs.size+1)::us++ds).length=ps.length:=by
  have e:=r2.length;rw[F.len _ _ _ _ hq] at e;exact e.symm
 refine wpAny_call (b1d (f:=f) I.kIn M.makes M.init (beq_iff_eq.mp M.fn) (codeAny_mono (F.run _ X.stack _ _ ⟨Value.ref (s.heap.objs.size+1)::us,[]⟩ (Value.ref (s.heap.objs.size+1)::(us++ds)) _ _ E (hr.make C us [])
  (I2.env0.make C us []) (hb _ (Value.ref (s.heap.objs.size+1)::us) I2.kIn hl) r2 hq) fun r s' hq'=>?_))
 cases r with
 |error e=>exact hx pins σ _ _ e s' I2 hq'
 | ok fl=>
  cases fl with
  |ret u=>
   obtain⟨v,H',I3,rv,ev,q3⟩:=I2.after hq';subst ev;exact⟨rv,⟨V.ref (s.heap.objs.size+1),H',I3,rfl,q3⟩⟩
  |next=>exact False.elim hq'
  |brk=>exact False.elim hq'
  |cont=>exact False.elim hq'
theorem b0N(M:Mk X.K C f)(F:FnOk X.prog X.w X.K X.mg X.base CX k f fd ps sp)(hr:Room (k+1) X.A)(hg:Gl X x)(hm:X.mg x= ~~~C)(hb:T7 X.K fd ps ds)(hd:i7 dvs ds)(hx:a3m CX X E)
 (hdb:(x==("__debug__":Str))=false:=by decide):PE X (.Call (.Name x p) [] [] pos) (b8e C sp dvs E b2S):=by
 intro pins s σ H Q I h;refine wpAny_Call_Name_kw (a4R I hg hm ?_ hdb)
 exact PySem.W.callWith_K0 I.kIn M.kp (b0h (us:=[]) M F hr hb hd hx I .nil h)
end
structure FnScope(N P:List Str)(sc:Scope):Prop where
 kind:sc.kind=.function
 co:sc.isCoroutine=false
 gen:sc.isGenerator=false
 nd:N.Nodup
 pre:N.take P.length=P
 par:∀x∈P,sc.names.lookup x=some .local∨sc.names.lookup x=some .cell
 nofree:∀y∈sc.names,y.2≠.free
theorem a4i{kindOf:Str->Option NameKind}{x:Str}:∀{binds:List (Str×Value)} {m:Str->Option Value},(∀v,(x,v)∉binds)->bindL kindOf binds m x=m x
 |[],_,_=>rfl
 | (n,v)::r,m,h=>by
  unfold bindL;rw[a4i fun w hw=>h w (aD _ hw)]
  split
  · have:x≠n:=by rintro rfl;exact h v bf
    simp[this]
  · rfl
theorem a4k{kindOf:Str->Option NameKind}{x:Str}:∀{binds:List (Str×Value)} {m:Str->Option Value},(∀v,(x,v)∉binds)->bindC kindOf binds m x=m x
 |[],_,_=>rfl
 | (n,v)::r,m,h=>by
  unfold bindC;rw[a4k fun w hw=>h w (aD _ hw)]
  split
  · rfl
  · have:x≠n:=by rintro rfl;exact h v bf
    simp[this]
theorem a4j{kindOf:Str->Option NameKind}{x:Str}{v:Value}:∀{P:List Str} {vs:List Value} {i:Nat} {m:Str->Option Value},P.Nodup->P[i]? =some x->vs[i]? =some v->kindOf x=some .local→
 bindL kindOf (P.zip vs) m x=some v
 |[],_,_,_,_,h,_,_=>by simp at h
 |_::_,[],_,_,_,_,h,_=>by simp at h
 |p::P,w::vs,0,m,nd,h1,h2,hk=>by
  simp at h1 h2;subst h1;subst h2
  show bindL kindOf ((p,w)::P.zip vs) m p=_
  unfold bindL;rw[a4i fun v hv=>(aY.mp nd).1 (of_mem_zip hv).1,ay hk]
  simp
 |p::P,w::vs,i+1,m,nd,h1,h2,hk=>by
  show bindL kindOf ((p,w)::P.zip vs) m x=_
  unfold bindL;exact a4j (i:=i) (aY.mp nd).2 (by simpa using h1) (by simpa using h2) hk
theorem a4l{kindOf:Str->Option NameKind}{x:Str}{v:Value}:∀{P:List Str} {vs:List Value} {i:Nat} {m:Str->Option Value},P.Nodup->P[i]? =some x->vs[i]? =some v->kindOf x≠some .local→
 bindC kindOf (P.zip vs) m x=some v
 |[],_,_,_,_,h,_,_=>by simp at h
 |_::_,[],_,_,_,_,h,_=>by simp at h
 |p::P,w::vs,0,m,nd,h1,h2,hk=>by
  simp at h1 h2;subst h1;subst h2
  show bindC kindOf ((p,w)::P.zip vs) m p=_
  unfold bindC;rw[a4k fun v hv=>(aY.mp nd).1 (of_mem_zip hv).1,az hk]
  simp
 |p::P,w::vs,i+1,m,nd,h1,h2,hk=>by
  show bindC kindOf ((p,w)::P.zip vs) m x=_
  unfold bindC;exact a4l (i:=i) (aY.mp nd).2 (by simpa using h1) (by simpa using h2) hk
noncomputable def a1a(N:List Str)(vs:List V):St:=vs.map some++List.replicate (N.length-vs.length) none
noncomputable def a7r(CX:CXT)(P:Program)(w:World)(K:PySem.W.Frag)(mg:Str->Option Value)(base:Heap)(N:List Str)(qual:Str)(scope:Scope)(f:Addr)(cd:Value)(A:Around)(outer:List Env)(s:Shared)(H:Hp)(E:XK):Cx where
 prog:=P
 w:=w
 K:=K
 mg:=mg
 base:=base
 A:=A.deeper (envOfC qual scope s.heap.objs.size f cd)
 N:=N
 s₀:=s
 H₀:=H
 env:=envOfC qual scope s.heap.objs.size f cd
 outer:=outer
 stack:=envOfC qual scope s.heap.objs.size f cd::outer
 ex:=[]
 calm:=true
 fn:=fun _=>true
 pn:=[]
 xe:=fun e s'=>wpAny (model P w) (A.deeper (envOfC qual scope s.heap.objs.size f cd)) (leaving (envOfC qual scope s.heap.objs.size f cd) e) (fun _ s''=>CX outer H s E e s'') (fun e' s''=>CX outer H s E e' s'') s'
variable{sc:Scope}
theorem a6y(h:sc.names.lookup x=some .cell):∃c,(cellsFrom n sc.names []).lookup x=some c:=by
 have q:=PySem.W.cellsFrom_some sc.names n [] (.inl h);exact Option.isSome_iff_exists.mp q
variable{qual:Str}{scope:Scope}
theorem a9n{f:Addr}{cd:Value}{s s1:Shared}{E:XK}{vs:List V}
 (S:FnScope N ps scope) (hd:A.handled=none) (e0:Env0 P w K mg base A outer s H) (hl:vs.length=ps.length) (r:i7 vs us)
 (x:InCallC s s.heap.objs.size (bindL (envOfC qual scope s.heap.objs.size f cd).kindOf (ps.zip us) fun _=>none) (cellsFrom (s.heap.objs.size+1) scope.names []) (bindC (envOfC qual scope s.heap.objs.size f cd).kindOf (ps.zip us) fun _=>none) s1):
 Inv (a7r CX P w K mg base N qual scope f cd A outer s H E) [] (a1a N vs) H s1:=by
 have hpl:ps.length<=N.length:=by have:=congrArg List.length S.pre;rw[aM] at this;omega
 obtain⟨h1,tk,rfl,hk⟩:=x.done
 have noA:∀b:Addr,b∉(a7r CX P w K mg base N qual scope f cd A outer s H E).ex:=fun b z=>absurd (show b∈([]:List Addr) from z) (by simp)
 refine⟨⟨e0.mod,S.kind,rfl,rfl,ai _,fun y z c h1 h2=>?_,fun y hy=>?_,fun y c _ h=>?_,fun _=>hd,Around.frames_deeper e0.frames,.inr ⟨rfl,rfl⟩,fun b z=>absurd z (noA b),e0.bs,e0.bsz,fun b _ _=>noA b,fun b z=>absurd z (noA b),e0.funs,e0.frf⟩,
  rfl,e0.bare,Un.kept hk,⟨_,x.toInCall.ns,fun i y v h1 h2 h3=>?_⟩,fun y c h=>⟨_,x.cell y c h⟩,e0.hok.fresh (ai _),fun y c h=>?_,fun p hp=>absurd (show p∈([]:List (Addr×Obj)) from hp) (by simp),e0.hok.kept hk,?_⟩
 · exact name_of_addr x.apart (PySem.mem_of_lookup h1) (PySem.mem_of_lookup h2)
 · have hy:scope.names.lookup y=some .cell∨scope.names.lookup y=some .free:=hy
   rcases hy with hy|hy
   · exact a6y hy
   · exact absurd rfl (S.nofree _ (PySem.mem_of_lookup hy))
 · exact Nat.le_of_lt (x.above y c (PySem.mem_of_lookup h))
 · have hi:i<vs.length:=by
    unfold a1a at h2
    by_cases hi:i<vs.length
    · exact hi
    · rw[aq (by simpa using hi)] at h2
      rw[bF] at h2
      split at h2<;>cases h2
   have ha:vs[i]? =some v:=by
    unfold a1a at h2;rw[av (by simpa using hi),aj] at h2
    cases e:vs[i]? with
    |none=>rw[e] at h2;cases h2
    |some a=>rw[e] at h2;cases h2;rfl
   obtain⟨u,hu,rv⟩:=r.get ha
   have hp:ps[i]? =some y:=by
    rw[←S.pre,bE (by omega)];exact h1
   have ndP:ps.Nodup:=by rw[←S.pre];exact S.nd.sublist (List.take_sublist _ _)
   refine⟨u,rv,?_⟩
   rcases S.par y (aG hp) with k|k
   · exact .inl ⟨k,a4j ndP hp hu k⟩
   · obtain⟨c,e⟩:=a6y (n:=s.heap.objs.size+1) k;refine .inr ⟨.inl k,c,e,?_⟩
     have q:=x.cell y c e;rw[a4l ndP hp hu (by show scope.names.lookup y≠_;rw[k];decide)] at q
     exact q
 · exact e0.hok.fresh (Nat.le_of_lt (x.above y c (PySem.mem_of_lookup h)))
 · unfold a1a
   show _=N.length
   rw[ao,aa,bt];omega
variable{doc:Value}{pm:Value}{cdv:Value}{ct:Value}{oc:Value}{an:Option Addr}{od:Option Addr}{osl:Array (Option Value)}
theorem b9m{k:Nat}{f:Addr}{name:Str}{params:Arguments}{dV kV:Value}
 (lk:K.lookup f=some ⟨oc,od,.func (PySem.W.fnOf name qual params body scope dV kV doc pm an cdv ct),osl⟩) (hcd:PySem.W.codeIn K cdv qual=true) (S:FnScope N ps scope)
    (len:∀vs H Q E,sp vs H Q E->vs.length=ps.length)
    (hbody:∀(A:Around) (outer:List Env) (s:Shared) (H:Hp) (vs:List V) (Q:VK) (E:XK),Room k (A.deeper (envOfC qual scope s.heap.objs.size f cdv))->sp vs H Q E→
      ∃t,PSs (a7r CX P w K mg base N qual scope f cdv A outer s H E) body t/\t {nx:=fun _ H'=>Q .non H',rt:=Q} (a1a N vs) H):
    FnOk P w K mg base CX (k+1) f (PySem.W.fnOf name qual params body scope dV kV doc pm an cdv ct) ps sp:=by
  refine⟨len,fun A outer s H args us vs Q E hr e0 hb r hsp=>?_⟩
  have hl:=len _ _ _ _ hsp
  have KX:K.In s.heap:=e0.mod.kin.keeps fun b o e=>(e0.bs b o e).1
  have lim:s.heap.NoLimit:=e0.mod.nolimit.keeps fun b o e=>(e0.bs b o e).1
  have hkind:∀y∈ps.zip us,scope.names.lookup y.1=some .local∨(scope.names.lookup y.1=some .cell/\((cellsFrom (s.heap.objs.size+1) scope.names []).lookup y.1).isSome=true):=fun⟨n,v⟩ hy=>by
    rcases S.par n (of_mem_zip hy).1 with q|q
    · exact .inl q
    · exact .inr ⟨q,PySem.W.cellsFrom_some _ _ _ (.inl q)⟩
  refine codeAny_call_function hr.depth (KX _ _ lk) rfl S.co S.gen rfl (PySem.W.codeRec_of KX hcd) (hb _ _ _ _ ?_)
  refine wpAny_newFunctionEnv_cells S.kind hkind fun env he s1 x=>?_
  subst he;refine⟨lim.keeps x.toInCall.keep,codeAny_func ?_⟩
  obtain⟨t,ht,hq⟩:=hbody A outer s H vs Q E (hr.deeper _) hsp
  have I:Inv (a7r CX P w K mg base N qual scope f cdv A outer s H E) [] (a1a N vs) H s1:=a9n S hr.hd e0 hl r x
  refine wpAny_mono (ht [] s1 (a1a N vs) H _ I hq) (fun fl s' hs=>?_) fun e s' hs=>hs
  have fin:∀{σ':St} {H':Hp} {v:V} {u:Value},Inv (a7r CX P w K mg base N qual scope f cdv A outer s H E) [] σ' H' s'->f6 v u->Q v H'->CE outer P w H s Q u s':=
    fun{σ' H' v u} J rv q=>⟨v,H',J.os,J.bare,J.base,J.hok,rv,q⟩
  cases fl with
  | ret u=>
    obtain⟨v,σ',H',J,rv,q⟩:=hs;exact fin J rv q
  | next=>
    obtain⟨σ',H',J,q⟩:=hs;exact fin (v:=V.non) (u:=Value.none) J rfl q
  | brk=>
    obtain⟨_,_,_,q⟩:=hs;exact False.elim q
  | cont=>
    obtain⟨_,_,_,q⟩:=hs;exact False.elim q
section
variable{es:List Expr}{t:TA}{id T:String}{r:List V->Hp->VK->Prop}
def tCB(r:List V->Hp->VK->Prop)(t:TA):TE:=fun σ H Q=>t σ H fun vs H1=>r vs H1 Q
theorem Z0(hc:C6 X (.builtin id) r)(hg:Gl X x)(hm:X.mg x=none)(hv:bootBuiltins x=some (.builtin id))(ha:PA X (e::es) t)(hn:x≠"__name__":=by decide)(hdb:(x==("__debug__":Str))=false:=by decide)
 (he:starEach (e::es) X.env=(false,eval e X.env)::starEach es X.env:=by rfl) (hpl:(backTo pos (starEach es X.env)).any (·.1)=false:=by rfl):PE X (.Call (.Name x p) (e::es) [] pos) (tCB r t):=by
 intro pins s σ H Q I h;refine wpAny_Call_Name_kw (W4 I hg hm hv ?_ hn hdb)
 exact PyProof.Rows.callWith_builtin1 (thn (ha pos pins s σ H _ I h) fun us s1 ⟨vs,H1,I1,r1,q1⟩=>hc pins s1 σ H1 vs us Q I1 r1 q1) he hpl
theorem L1(hc:C6 X (.type T) r)(hg:Gl X x)(hm:X.mg x=none)(hv:bootBuiltins x=some (.type T))(ha:PA X (e::es) t)(hn:x≠"__name__":=by decide)(hdb:(x==("__debug__":Str))=false:=by decide)
 (he:starEach (e::es) X.env=(false,eval e X.env)::starEach es X.env:=by rfl) (hpl:(backTo pos (starEach es X.env)).any (·.1)=false:=by rfl):PE X (.Call (.Name x p) (e::es) [] pos) (tCB r t):=by
 intro pins s σ H Q I h;refine wpAny_Call_Name_kw (W4 I hg hm hv ?_ hn hdb)
 exact PyProof.Rows.callWith_type1 (thn (ha pos pins s σ H _ I h) fun us s1 ⟨vs,H1,I1,r1,q1⟩=>hc pins s1 σ H1 vs us Q I1 r1 q1) he hpl
end
end L2
namespace HT
open PySem PyProof.Rows
variable{b:Addr}{items:Array Value}{Q:Value->Shared->Prop}{sl:Addr}{vl:Value}{vu:Value}{lo:Option Int}{hi:Option Int}
section
variable{prog:Program}{w:World}{A:Around}{E:Value->Shared->Prop}{s:Shared}
noncomputable def sIx(n d:Nat):Option Int->Nat
 |none=>d
 |some v=>if v<0 then(v+(n:Int)).toNat else min v.toNat n
theorem b5E(n d:Nat)(hd:d<=n)(o:Option Int):sIx n d o<=n:=by
 cases o with
 |none=>exact hd
 |some v=>
  show(if v<0 then(v+(n:Int)).toNat else min v.toNat n)<=n
  by_cases hv:v<0
  · rw[ay hv];omega
  · rw[az hv];exact Nat.min_le_right _ _
theorem a8z(v:Int)(n d:Nat):(if v<0 then max (v+(n:Int)) 0 else min v (n:Int))=((sIx n d (some v):Nat):Int):=by
 show(if v<0 then max (v+(n:Int)) 0 else min v (n:Int))=(((if v<0 then(v+(n:Int)).toNat else min v.toNat n):Nat):Int)
 by_cases hv:v<0
 · simp only[ay hv];omega
 · simp only[az hv];omega
theorem a7w(lo hi:Option Int)(n:Nat):Builtin.Slice.sliceAdjust lo hi 1 (n:Int)=(((sIx n 0 lo:Nat):Int),((sIx n n hi:Nat):Int)):=by
 have h1:¬((1:Int)<0):=by omega
 unfold Builtin.Slice.sliceAdjust;simp only[h1,if_false];refine Prod.ext ?_ ?_
 · cases lo with
   |none=>rfl
   |some v=>exact a8z v n 0
 · cases hi with
   |none=>rfl
   |some v=>exact a8z v n n
theorem a6R(i j:Nat):Builtin.Slice.slicePlaces (i:Int) (j:Int) 1=j-i:=by
 unfold Builtin.Slice.slicePlaces
 have h1:(1:Int)>0:=by omega
 simp only[h1,if_true,Int.ediv_one]
 split<;>omega
theorem a2I{v:Value}{o:Option Int}{Q:Option Int->Shared->Prop}(p:IsPart v o)(h:Q o s):wpAny (model prog w) A (Builtin.Slice.slicePartIndex v) Q E s:=by
 cases p with
 |none=>exact slicePart_none h
 |int i t=>exact slicePart_int h
theorem a1z{n:Nat}{Q:Int×Int×Nat->Shared->Prop}(hs:s.heap.IsSliceOf sl vl vu .none)(pl:IsPart vl lo)(pu:IsPart vu hi)
 (h:Q (((sIx n 0 lo:Nat):Int),1,sIx n n hi-sIx n 0 lo) s):wpAny (model prog w) A (Builtin.Slice.sliceApplied (.ref sl) (pure (n:Int))) Q E s:=by
 obtain⟨os,hos,hcs,hds⟩:=id hs;unfold Builtin.Slice.sliceApplied Builtin.Slice.sliceFields;refine wpAny_bind (wpAny_bind (wpAny_field hos hds (x:=vl) rfl (wpAny_bind (wpAny_field hos hds (x:=vu) rfl (wpAny_bind (wpAny_field hos hds (x:=.none) rfl (wpAny_pure ?_)))))))
 refine wpAny_bind (slicePart_none ?_)
 show wpAny _ _ (if((1:Int)==0)=true then _ else _) _ _ s
 rw[az (by decide)]
 refine wpAny_bind (a2I pl (wpAny_bind (a2I pu (wpAny_bind (wpAny_pure ?_)))))
 show wpAny _ _ (match Builtin.Slice.sliceAdjust lo hi 1 (n:Int) with|(lo,hi)=>pure (lo,(1:Int),Builtin.Slice.slicePlaces lo hi 1)) _ _ s
 rw[a7w lo hi n]
 show wpAny _ _ (pure (((sIx n 0 lo:Nat):Int),(1:Int),Builtin.Slice.slicePlaces ((sIx n 0 lo:Nat):Int) ((sIx n n hi:Nat):Int) 1)) _ _ s
 rw[a6R];exact wpAny_pure h
theorem b0H(xs:Array Value)(i k:Nat):((List.range k).filterMap fun(m:Nat)=>xs[((i:Int)+(m:Int)*1).toNat]?).toArray=((xs.toList.drop i).take k).toArray:=by
 have e:(fun(m:Nat)=>xs[((i:Int)+(m:Int)*1).toNat]?)=fun m=>xs[i+m]? :=by
  funext m
  have:((i:Int)+(m:Int)*1).toNat=i+m:=by omega
  rw[this]
 rw[e]
 have:=pick_run xs i k
 rw[List.filterMap_map] at this
 have e2:((fun x=>xs[x]?)∘fun x=>i+x)=fun m=>xs[i+m]? :=rfl
 rw[e2] at this;rw[this]
theorem a1n{t:Addr}(ht:IsTup s.heap t items)(hs:s.heap.IsSliceOf sl vl vu .none)(pl:IsPart vl lo)(pu:IsPart vu hi)
 (hw:¬(sIx items.size 0 lo=0/\sIx items.size items.size hi=items.size))
 (h:Q (.ref s.heap.objs.size) {s with heap:=s.heap.push {cls:=.type "tuple",data:=.seq ((items.toList.drop (sIx items.size 0 lo)).take (sIx items.size items.size hi-sIx items.size 0 lo)).toArray}})
 (hsz:items.size<=sizeLine):wpAny (model prog w) A (getItem (.ref t) (.ref sl)) Q E s:=by
 have htake:sizeOk (.seq ((items.toList.drop (sIx items.size 0 lo)).take (sIx items.size items.size hi-sIx items.size 0 lo)).toArray):=by
  show((items.toList.drop (sIx items.size 0 lo)).take (sIx items.size items.size hi-sIx items.size 0 lo)).toArray.size<=sizeLine
  rw[size_toArray,aM,bD,Array.length_toList];omega
 have hj:sIx items.size items.size hi<=items.size:=b5E _ _ (ai _) hi
 obtain⟨os,hos,hcs,hds⟩:=id hs
 have hTs:s.TypeIs (.ref sl) "slice":=⟨os,hos,hcs⟩
 unfold getItem
 try with_reducible refine wpAny_holding ?_
 first|refine wpAny_bind (wpAny_pure ?_)|skip
 refine wpAny_bind (wpAny_sequenceKey ht.typeIs (by decide) ?_)
 refine wpAny_bind (wpAny_callSpecial?_slot (name:=Str.ofString "__getitem__") ht.typeIs PyProof.Rows.slot_tuple_getitem
  (wpAny_call_entry PyProof.Rows.slot_tuple_getitem ht.typeIs entry_tuple_getitem ?_ (args_tuple_getitem _ _)))
 show wpAny _ _ (Builtin.Tuple.tupleItemsOf (.ref t)>>=_) _ _ s
 refine wpAny_bind (tupleItemsOf_ ht ?_)
 refine wpAny_bind (wpAny_typeOf hTs ?_)
 rw[ay (by decide)]
 refine wpAny_bind (a1z hs pl pu ?_)
 have hno:¬((((sIx items.size 0 lo:Nat):Int)==0&&(1:Int)==1&&(sIx items.size items.size hi-sIx items.size 0 lo)==items.size)=true):=by
  intro q;rw[ae,ae] at q
  have q1:((sIx items.size 0 lo:Nat):Int)=0:=eq_of_beq q.1.1
  have q2:sIx items.size items.size hi-sIx items.size 0 lo=items.size:=eq_of_beq q.2
  exact hw ⟨by omega,by omega⟩
 show wpAny _ _ (if(((sIx items.size 0 lo:Nat):Int)==0&&(1:Int)==1&&(sIx items.size items.size hi-sIx items.size 0 lo)==items.size)=true then _ else _) _ _ s
 rw[az hno,b0H]
 first
  |exact wpAny_bind (m:=Builtin.Tuple.tupleExact _) (wpAny_newObj_type (wpAny_pure ⟨_,rfl,wpAny_pure h⟩) htake)
  |exact wpAny_bind (m:=Builtin.Tuple.tupleExact _) (wpAny_newObj_type (wpAny_bind (wpAny_pure (wpAny_pure ⟨_,rfl,wpAny_pure h⟩))) htake)
  |exact wpAny_bind (wpAny_bind (m:=Builtin.Tuple.tupleExact _) (wpAny_newObj_type (wpAny_pure (wpAny_pure ⟨_,rfl,wpAny_pure h⟩)) htake))
  |exact wpAny_bind (wpAny_bind (m:=Builtin.Tuple.tupleExact _) (wpAny_newObj_type (wpAny_pure ⟨_,rfl,wpAny_pure h⟩) htake))
end
end HT
namespace L2
open PySem PySem.Spec PyProof.Rows
abbrev TO:=St->Hp->(Option Int->Hp->Prop)->Prop
def PO(X:Cx)(e:Option Expr)(t:TO):Prop:=
 ∀(pins:List (Addr×Obj)) (s:Shared) (σ:St) (H:Hp) (Q:Option Int->Hp->Prop),Inv X pins σ H s->t σ H Q→
  wpAny (model X.prog X.w) X.A (evalPart e X.env) (fun u s'=>∃o H',Inv X pins σ H' s'/\IsPart u o/\Q o H') X.xe s
def b2R:TO:=fun _ H Q=>Q none H
noncomputable def b8a(t:TE):TO:=fun σ H Q=>t σ H fun x H1=>∃i,x=.int i/\Q (some i) H1
variable{ns:List Int}
theorem a7h:∀{us:List Value},i7 (ns.map V.int) us->IntsAre us ns:=by
 induction ns with
 |nil=>intro us r;rw[map_nil] at r;cases r;exact .nil
 | cons n ns ih=>
  intro us r;rw[map_cons] at r
  cases r with
  |cons r1 r2=>
   obtain⟨t,e⟩:=r1;subst e;exact .cons n t (ih r2)
variable{r:V->Option Int->Option Int->Hp->VK->Prop}{us:List Value}
section
variable{X:Cx}{e:Expr}{te:TE}{lo hi:Option Expr}{tl th:TO}{pos p2:Pos}
theorem b3r:PO X none b2R:=by
 intro pins s σ H Q I h;rw[evalPart_none];exact wpAny_pure ⟨none,H,I,.none,h⟩
theorem b3q(h:PE X e te):PO X (some e) (b8a te):=by
 intro pins s σ H Q I hw;rw[evalPart_some];refine thn (h pins s σ H _ I hw) fun u s1 zz=>?_
 obtain⟨x,H1,I1,r1,q1⟩:=zz;obtain⟨i,rfl,q⟩:=q1;obtain⟨t,rfl⟩:=r1;exact⟨some i,H1,I1,.int i t,q⟩
def SlR(X:Cx)(r:V->Option Int->Option Int->Hp->VK->Prop):Prop:=
 ∀(pins:List (Addr×Obj)) (s:Shared) (σ:St) (H:Hp) (x:V) (v vl vu:Value) (lo hi:Option Int) (sl:Addr) (Q:VK),Inv X pins σ H s->f6 x v->s.heap.IsSliceOf sl vl vu .none->IsPart vl lo->IsPart vu hi->r x lo hi H Q→
  ∃T id,typeLookup (.type T) "__getitem__"=pure (some (.builtin id))/\s.TypeIs v T/\wpAny (model X.prog X.w) X.A (getItem v (.ref sl)) (EP X pins σ Q) X.xe s
def tSl(r:V->Option Int->Option Int->Hp->VK->Prop)(te:TE)(tl th:TO):TE:=fun σ H Q=>te σ H fun x H1=>tl σ H1 fun l H2=>th σ H2 fun u H3=>r x l u H3 Q
theorem b0M(hr:SlR X r)(he:PE X e te)(hl:PO X lo tl)(hu:PO X hi th):PE X (.Subscript e (.Slice lo hi none p2) pos) (tSl r te tl th):=by
 intro pins s σ H Q I h;refine Subscript_ (thn (he pins s σ H _ I h) fun v s1 zz=>?_)
 obtain⟨x,H1,I1,r1,q1⟩:=zz;refine wpAny_Slice (thn (hl pins s1 σ H1 _ I1 q1) fun vl s2 ⟨l,H2,I2,pl,q2⟩=>thn (hu pins s2 σ H2 _ I2 q2) fun vu s3 zz=>?_)
 obtain⟨u,H3,I3,pu,q3⟩:=zz;rw[evalPart_none];refine wpAny_pure ?_
 have I4:Inv X pins σ H3 {s3 with heap:=s3.heap.push {cls:=.type "slice",data:=.fields #[vl,vu,.none]}}:=I3.kept (t':=s3.toks) fun b ob q=>Heap.get?_push_of_some _ q
 obtain⟨T,id,hT,ht,hg⟩:=hr pins {s3 with heap:=s3.heap.push {cls:=.type "slice",data:=.fields #[vl,vu,.none]}} σ H3 x v vl vu l u s3.heap.objs.size Q I4 r1 (Heap.IsSliceOf.new ..) pl pu q3
 show wpAny (model X.prog X.w) X.A (subscriptTail e (.Slice lo hi none p2) v (.ref s3.heap.objs.size)) (EP X pins σ Q) X.xe {s3 with heap:=s3.heap.push {cls:=.type "slice",data:=.fields #[vl,vu,.none]}}
 exact tail_any (ops:=[.ref s3.heap.objs.size,v]) ht hT hg (by with_unfolding_all rfl)
def a6u(xs:List V)(lo hi:Option Int):List V:=(xs.drop (HT.sIx xs.length 0 lo)).take (HT.sIx xs.length xs.length hi-HT.sIx xs.length 0 lo)
theorem a1Y(xs:List V)(lo hi:Option Int):(a6u xs lo hi).length<=xs.length:=by
 unfold a6u;rw[aM,bD];omega
def c0J(K:PySem.W.Frag):V->Option Int->Option Int->Hp->VK->Prop:=fun x lo hi H Q=>∃a xs,x=.ref a/\SqT K H a xs∧
 ¬(HT.sIx xs.length 0 lo=0/\HT.sIx xs.length xs.length hi=xs.length)/\∀p,H p=none->Q (.ref p) (upd H p (.tup (a6u xs lo hi)))
theorem b5B:SlR X (c0J X.K):=by
 intro pins s σ H x v vl vu lo hi sl Q I rx hs pl pu h;obtain⟨a,xs,rfl,hx,hw,q⟩:=h;cases rx;obtain⟨its,r,ht,hz⟩:=I.tuple hx
 have hlen:its.toArray.size=xs.length:=by rw[size_toArray];exact r.length.symm
 refine⟨"tuple",_,PyProof.Rows.slot_tuple_getitem.lookup,ht.typeIs,?_⟩
 refine HT.a1n ht hs pl pu (by rw[hlen];exact hw) ?_ (by rw[hlen];exact hz)
 rw[hlen];refine⟨.ref s.heap.objs.size,_,I.laid (t':=s.toks) (o:=.tup (a6u xs lo hi)) (fun b ob q=>Heap.get?_push_of_some _ q) (ai _) ?_,rfl,q _ (I.hok.fresh (ai _))⟩
 exact⟨aU (a1Y xs lo hi) hz,_,(r.drop (HT.sIx xs.length 0 lo)).take (HT.sIx xs.length xs.length hi-HT.sIx xs.length 0 lo),a0j.new _ _⟩
end
noncomputable def ixN(n:Nat)(i:Int):Option Nat:=if 0<=i then(if i<n then some i.toNat else none) else if-(n:Int)<=i then some (i+n).toNat else none
def atI{α:Type}(xs:List α)(i:Int):Option α:=(ixN xs.length i).bind fun j=>xs[j]?
variable{n:Nat}{j:Nat}
theorem a8d{i:Int}(h:ixN n i=some j):seqIndex? i n=some j/\j<n/\ -(n:Int)<=i/\i<n:=by
 unfold ixN at h
 by_cases h0:0<=i
 · rw[ay h0] at h
   by_cases h1:i<n
   · rw[ay h1] at h
     have e:i.toNat=j:=ax h
     exact⟨by rw[seqIndex_of h0 h1,e],by omega,by omega,h1⟩
   · rw[az h1] at h;cases h
 · rw[az h0] at h
   by_cases h1: -(n:Int)<=i
   · rw[ay h1] at h
     have e:(i+n).toNat=j:=ax h
     exact⟨by rw[seqIndex_neg (by omega) h1,e],by omega,h1,by omega⟩
   · rw[az h1] at h;cases h
variable{α:Type}
theorem a5v{xs:List α}{i:Int}{v:α}(h:atI xs i=some v):∃j,seqIndex? i xs.length=some j/\xs[j]? =some v/\j<xs.length/\ -(xs.length:Int)<=i/\i<xs.length:=by
 unfold atI at h
 cases e:ixN xs.length i with
 |none=>rw[e] at h;cases h
 |some j=>
  rw[e] at h;obtain⟨h1,h2,h3,h4⟩:=a8d e;exact⟨j,h1,h,h2,h3,h4⟩
def a2z(b:Expr):Prop:=∀o i,subscripted b false o i=operate [o,i] (getItem o i)
def IxR(X:Cx)(r:R2):Prop:=
 ∀(value slice:Expr) (pins:List (Addr×Obj)) (s:Shared) (σ:St) (H:Hp) (x y:V) (v u:Value) (Q:VK),Inv X pins σ H s->f6 x v->f6 y u->r x y H Q→
  subscripted slice false v u=operate [v,u] (getItem v u)->wpAny (model X.prog X.w) X.A (subscriptTail value slice v u) (EP X pins σ Q) X.xe s
def MtR(X:Cx)(id:String)(r:V->List V->Hp->VK->Prop):Prop:=
 ∀(pins:List (Addr×Obj)) (s:Shared) (σ:St) (H:Hp) (x:V) (xs:List V) (v:Value) (us:List Value) (Q:VK),Inv X pins σ H s->f6 x v->i7 xs us->r x xs H Q→
  wpAny (model X.prog X.w) X.A (call (.builtin id) (v::us)) (EP X pins σ Q) X.xe s
variable{id:String}{pins:List (Addr×Obj)}{σ:St}{H:Hp}{ys:List V}{its:List Value}{its':List Value}{A:Around}{y:V}{u:Value}
section
variable{X:Cx}{a b:Expr}{ta tb:TE}{pos:Pos}
theorem b5d{r:R2}(hr:IxR X r)(ha:PE X a ta)(hb:PE X b tb)(hs:a2z b):PE X (.Subscript a b pos) (tOp r ta tb):=by
 intro pins s σ H Q I h;exact Subscript_ (b7u ha hb I h fun v u s2 x y H2 I2 rx ry q=>hr a b pins s2 σ H2 x y v u Q I2 rx ry q (hs _ _))
noncomputable def c0P(K:PySem.W.Frag):R2:=fun x y H Q=>∃p xs i v,x=.ref p/\y=.int i/\SqL K H p xs/\atI xs i=some v/\Q v H
noncomputable def c0N(K:PySem.W.Frag):R2:=fun x y H Q=>∃p xs i v,x=.ref p/\y=.int i/\SqT K H p xs/\atI xs i=some v/\Q v H
noncomputable def c0O:R2:=fun x y H Q=>∃z i c,x=.str z/\y=.int i/\z.length<=sizeLine/\atI z.cps.toList i=some c/\Q (.str ⟨#[c]⟩) H
theorem a8c:IxR X (c0P X.K):=by
 intro value slice pins s σ H x y v u Q I rx ry h hs;obtain⟨p,xs,i,z,rfl,rfl,hq,he,q⟩:=h;cases rx;obtain⟨t,rfl⟩:=ry;obtain⟨its,r,pl,hz⟩:=I.list hq;obtain⟨j,h1,h2,h3,h4,h5⟩:=a5v he;obtain⟨w,ew,rw'⟩:=r.get h2;have hl:=r.length;have hn:=a0O
 have fin:EP X pins σ Q w s:=⟨z,H,I,rw',q⟩
 by_cases h0:0<=i
 · have hj:i.toNat=j:=by
    rw[seqIndex_of h0 h5] at h1;exact ax h1
   exact item_listR pl.isList h0 (by omega) (by rw[hj];simpa using ew) fin hs
 · have hj:(i+(its.toArray.size:Int)).toNat=j:=by
    rw[seqIndex_neg (by omega) h4] at h1
    rw[size_toArray,←hl];exact ax h1
   exact subscriptTail_builtinR (x:=w) pl.isList.typeIs slot_list_getitem.lookup
    (wpAny_getItem_list_neg (Q:=fun r s'=>r=w/\EP X pins σ Q r s') pl.isList (by omega) (by rw[size_toArray]<;>omega) (by omega) (by rw[hj];simpa using ew) ⟨rfl,fin⟩) hs
theorem ix_tup:IxR X (c0N X.K):=by
 intro value slice pins s σ H x y v u Q I rx ry h hs;obtain⟨p,xs,i,z,rfl,rfl,hq,he,q⟩:=h;cases rx;obtain⟨t,rfl⟩:=ry;obtain⟨its,r,pl,hz⟩:=I.tuple hq;obtain⟨j,h1,h2,h3,h4,h5⟩:=a5v he;obtain⟨w,ew,rw'⟩:=r.get h2;have hl:=r.length;have hn:=a0O
 have fin:EP X pins σ Q w s:=⟨z,H,I,rw',q⟩
 exact subscriptTail_builtinR (x:=w) pl.typeIs slot_tuple_getitem.lookup
  (getItem_tuple (j:=j) (Q:=fun r s'=>r=w/\EP X pins σ Q r s') pl (by omega) (by omega) (by rw[size_toArray,←hl];exact h1) (by simpa using ew) ⟨rfl,fin⟩) hs
theorem ix_str:IxR X c0O:=by
 intro value slice pins s σ H x y v u Q I rx ry h hs;obtain⟨z,i,c,rfl,rfl,hz,he,q⟩:=h;obtain⟨t,rfl⟩:=rx;obtain⟨t',rfl⟩:=ry;obtain⟨j,h1,h2,h3,h4,h5⟩:=a5v he
 have hl:z.cps.toList.length=z.length:=by simp[Str.length]
 rw[hl] at h1 h4 h5;have hn:=a0O
 exact tail_any (typeIs_str s z t) slot_str_getitem.lookup (getItem_str (c:=c) (by
  have e1:decide (i< -(2^63:Int))=false:=bB (by omega)
  have e2:decide (i≥2^63)=false:=bB (by omega)
  rw[e1,e2,Bool.or_false]) (by rw[h1];simpa using h2) ⟨.str ⟨#[c]⟩,H,I.tok _,⟨_,rfl⟩,q⟩) hs
theorem a6Y(its:List Value)(n j:Nat)(u:Value):Obj.mapSeq (·.setIfInBounds j u) {cls:=.type "list",data:=.seq its.toArray n}={cls:=.type "list",data:=.seq (its.set j u).toArray n}:=by
 simp[Obj.mapSeq]
theorem Inv.lst{pins:List (Addr×Obj)}{σ:St}{H:Hp}{s:Shared}{p:Addr}{xs:List V}(I:Inv X pins σ H s)(h:H p=some (.lst xs)):
 ∃(its:List Value) (n:Nat),i7 xs its/\s.heap.get? p=some {cls:=.type "list",data:=.seq its.toArray n}/\xs.length<=sizeLine:=by
 obtain⟨z,its,n,r,e⟩:=I.hok p _ h;exact⟨its,n,r,e,z⟩
theorem Inv.lstUpd{s:Shared}{p:Addr}{xs:List V}{n':Nat}{f:Obj->Obj}(I:Inv X pins σ H s)(h:H p=some (.lst xs))
 (ho:s.heap.get? p=some {cls:=.type "list",data:=.seq its.toArray n}) (hf:f {cls:=.type "list",data:=.seq its.toArray n}={cls:=.type "list",data:=.seq its'.toArray n'}) (r:i7 ys its') (hz:ys.length<=sizeLine) (t:Nat):
 Inv X pins σ (upd H p (.lst ys)) {s with heap:=s.heap.update p f,toks:=t}:=by
 have e:(s.heap.update p f).get? p=some {cls:=.type "list",data:=.seq its'.toArray n'}:=by
  rw[Heap.get?_update_self f ho (by rw[hf]<;>rfl),hf]
 refine I.write (x:=p) (e:=p) (by rw[h];trivial) (.inl rfl) (fun b u hb q=>(Heap.get?_update_other _ _ (Ne.symm hb)).trans q) ⟨_,e⟩ ?_
 exact⟨hz,its',n',r,e⟩
def b8t:V->V->V->Hp->(Hp->Prop)->Prop:=fun o i v H Q=>∃p xs k j,o=.ref p/\i=.int k/\H p=some (.lst xs)/\ixN xs.length k=some j/\Q (upd H p (.lst (xs.set j v)))
theorem b0e:b7R X b8t:=by
 intro pins s σ H o i v ov iv u Q I ro ri rv h;obtain⟨p,xs,k,j,rfl,rfl,hp,hj,q⟩:=h;cases ro;obtain⟨t,rfl⟩:=ri;obtain⟨its,n,r,ho,hz⟩:=I.lst hp;obtain⟨h1,h2,h3,h4⟩:=a8d hj;have hl:=r.length;have hn:=a0O
 have I':Inv X pins σ (upd H p (.lst (xs.set j v))) {s with heap:=s.heap.update p (Obj.mapSeq (·.setIfInBounds j u))}:=
  I.lstUpd hp ho (a6Y its n j u) (r.set rv j) (by rw[aN];exact hz) s.toks
 by_cases h0:0<=k
 · have hk:k.toNat=j:=by
    rw[seqIndex_of h0 h4] at h1;exact ax h1
   exact PySem.W.ki_setAt ho h0 (by omega) (by rw[size_toArray,←hl];exact h4) (by rw[hk];exact⟨_,I',q⟩)
 · have hk:(k+(its.toArray.size:Int)).toNat=j:=by
    rw[seqIndex_neg (by omega) h3] at h1
    rw[size_toArray,←hl];exact ax h1
   exact PySem.W.ki_setBack ho (by omega) (by rw[size_toArray,←hl];exact h3) (by omega) (by rw[hk];exact⟨_,I',q⟩)
theorem a4x(lo hi:Option Int)(n:Nat):(sliceBounds lo hi none n).1=((HT.sIx n 0 lo:Nat):Int)/\(sliceBounds lo hi none n).2.1=((HT.sIx n n hi:Nat):Int)/\(sliceBounds lo hi none n).2.2=1:=by
 refine⟨?_,?_,rfl⟩
 · cases lo with
   |none=>simp[sliceBounds,HT.sIx]
   |some i=>
    simp only[sliceBounds,HT.sIx,Option.getD_none,show(1:Int)>0 by decide,if_true]
    by_cases h:i<0
    · simp only[h,if_true]<;>omega
    · simp only[h,if_false]<;>omega
 · cases hi with
   |none=>simp[sliceBounds,HT.sIx]
   |some i=>
    simp only[sliceBounds,HT.sIx,Option.getD_none,show(1:Int)>0 by decide,if_true]
    by_cases h:i<0
    · simp only[h,if_true]<;>omega
    · simp only[h,if_false]<;>omega
theorem a3q(its:List Value)(lo hi:Option Int):slicePick its.toArray lo hi none=((its.drop (HT.sIx its.length 0 lo)).take (HT.sIx its.length its.length hi-HT.sIx its.length 0 lo)).toArray:=by
 obtain⟨h1,h2,h3⟩:=a4x lo hi its.toArray.size;unfold slicePick;rw[h1,h2,h3];simp only[sliceRange_one,pick_run,size_toArray]<;>rfl
def c0L(K:PySem.W.Frag):V->Option Int->Option Int->Hp->VK->Prop:=fun x lo hi H Q=>∃a xs,x=.ref a/\SqL K H a xs/\∀p,H p=none->Q (.ref p) (upd H p (.lst (a6u xs lo hi)))
theorem b2Z:SlR X (c0L X.K):=by
 intro pins s σ H x v vl vu lo hi sl Q I rx hs pl pu h;obtain⟨a,xs,rfl,hx,q⟩:=h;cases rx;obtain⟨its,r,ht,hz⟩:=I.list hx;have hlen:=r.length;refine⟨"list",_,slot_list_getitem.lookup,ht.isList.typeIs,?_⟩
 refine wpAny_getItem_list_slice ht.isList hs pl pu .none (by simp) ?_ (by rw[size_toArray]<;>omega)
 rw[a3q,←hlen];refine⟨.ref s.heap.objs.size,_,I.laid (t':=s.toks) (o:=.lst (a6u xs lo hi)) (fun b ob q=>Heap.get?_push_of_some _ q) (ai _) ?_,rfl,q _ (I.hok.fresh (ai _))⟩
 exact⟨aU (a1Y xs lo hi) hz,_,0,(r.drop (HT.sIx xs.length 0 lo)).take (HT.sIx xs.length xs.length hi-HT.sIx xs.length 0 lo),Heap.get?_push_size _ rfl⟩
noncomputable def a0E:V->Bool
 |.non=>true
 |.bl _=>true
 |.int _=>true
 |.str _=>true
 |_=>false
noncomputable def eqV:V->V->Bool
 |.non,.non=>true
 |.bl a,.bl b=>a==b
 |.bl a,.int b=>(if a then 1 else 0)==b
 |.int a,.bl b=>a==(if b then 1 else 0)
 |.int a,.int b=>a==b
 |.str a,.str b=>a==b
 |_,_=>false
theorem b2i{s:Shared}{x:V}{v:Value}(ry:f6 y u)(rx:f6 x v)(fy:a0E y=true)(fx:a0E x=true):SeqAt.EqAt A s u v (eqV y x):=by
 cases y with
 |non=>
  cases ry
  cases x with
  |non=>cases rx;exact SeqAt.EqAt.same _
  |bl b=>cases rx;exact SeqAt.EqAt.none_bool b
  |int b=>obtain⟨t,rfl⟩:=rx;exact SeqAt.EqAt.none_int b t
  |str b=>obtain⟨t,rfl⟩:=rx;exact SeqAt.EqAt.none_str b t
  |_=>exact absurd (show false=true from fx) bv
 |bl a=>
  cases ry
  cases x with
  |non=>cases rx;exact SeqAt.EqAt.bool_none a
  |bl b=>cases rx;exact SeqAt.EqAt.bool_bool a b
  |int b=>obtain⟨t,rfl⟩:=rx;exact SeqAt.EqAt.bool_int a b t
  |str b=>obtain⟨t,rfl⟩:=rx;exact SeqAt.EqAt.bool_str a b t
  |_=>exact absurd (show false=true from fx) bv
 |int a=>
  obtain⟨t',rfl⟩:=ry
  cases x with
  |non=>cases rx;exact SeqAt.EqAt.int_none a t'
  |bl b=>cases rx;exact SeqAt.EqAt.int_bool a t' b
  |int b=>obtain⟨t,rfl⟩:=rx;exact SeqAt.EqAt.int_int a t' b t
  |str b=>obtain⟨t,rfl⟩:=rx;exact SeqAt.EqAt.int_str a t' b t
  |_=>exact absurd (show false=true from fx) bv
 |str a=>
  obtain⟨t',rfl⟩:=ry
  cases x with
  |non=>cases rx;exact SeqAt.EqAt.str_none a t'
  |bl b=>cases rx;exact SeqAt.EqAt.str_bool a t' b
  |int b=>obtain⟨t,rfl⟩:=rx;exact SeqAt.EqAt.str_int a t' b t
  |str b=>obtain⟨t,rfl⟩:=rx;exact SeqAt.EqAt.str_str a t' b t
  |_=>exact absurd (show false=true from fx) bv
 |_=>exact absurd (show false=true from fy) bv
def eqU(x:V)(u:Value):Bool:=match u with
 |.none=>eqV .non x
 |.bool b=>eqV (.bl b) x
 |.int i _=>eqV (.int i) x
 |.str z _=>eqV (.str z) x
 |_=>false
theorem b2e{x:V}(r:f6 y u)(f:a0E y=true):eqU x u=eqV y x:=by
 cases y with
 |non=>cases r;rfl
 |bl b=>cases r;rfl
 |int i=>obtain⟨t,rfl⟩:=r;rfl
 |str z=>obtain⟨t,rfl⟩:=r;rfl
 |_=>exact absurd (show false=true from f) bv
theorem a1v{x:V}:∀{xs:List V} {us:List Value},i7 xs us->xs.all a0E=true->us.any (eqU x)=xs.any fun y=>eqV y x
 |_,_,.nil,_=>rfl
 |y::xs,u::us,.cons r t,f=>by
  rw[all_cons,ae] at f;rw[any_cons,any_cons,b2e r f.1,a1v t f.2]
theorem Z4{A:Around}{s:Shared}{x:V}{v:Value}(rx:f6 x v)(fx:a0E x=true):∀{xs:List V} {us:List Value},i7 xs us->xs.all a0E=true->∀u∈us,SeqAt.EqAt A s u v (eqU x u)
 |_,_,.nil,_=>fun u hu=>by cases hu
 |y::xs,u::us,.cons r t,f=>fun u' hu=>by
  rw[all_cons,ae] at f
  rcases aE.mp hu with rfl|hu
  · rw[b2e r f.1];exact b2i r rx f.1 fx
  · exact Z4 rx fx t f.2 u' hu
def inV(x:V)(xs:List V):Bool:=xs.any fun y=>eqV y x
def rIn(K:PySem.W.Frag)(neg:Bool):R2:=fun x y H Q=>∃p xs,y=.ref p/\(SqL K H p xs∨SqT K H p xs)/\a0E x=true/\xs.all a0E=true/\Q (.bl (if neg then !inV x xs else inV x xs)) H
theorem a0n:OpR X (compareOp .In) (rIn X.K false):=by
 intro pins s σ H x y v u Q I rx ry h;obtain⟨p,xs,rfl,hq,fx,fs,q⟩:=h;cases ry
 rcases hq with hq|hq
 · obtain⟨its,r,pl,hz⟩:=I.list hq;refine SeqAt.in_listAt (eqU x) pl.isList (fun w hw=>Z4 rx fx r fs w (by simpa using hw)) ⟨.bl _,H,I,rfl,?_⟩
   rw[show its.toArray.any (eqU x)=its.any (eqU x) by simp,a1v r fs]
   exact q
 · obtain⟨its,r,pl,hz⟩:=I.tuple hq;refine SeqAt.in_tupleAt (eqU x) pl (fun w hw=>Z4 rx fx r fs w (by simpa using hw)) ⟨.bl _,H,I,rfl,?_⟩
   rw[show its.toArray.any (eqU x)=its.any (eqU x) by simp,a1v r fs]
   exact q
theorem N9:OpR X (compareOp .NotIn) (rIn X.K true):=by
 intro pins s σ H x y v u Q I rx ry h;obtain⟨p,xs,rfl,hq,fx,fs,q⟩:=h;cases ry
 rcases hq with hq|hq
 · obtain⟨its,r,pl,hz⟩:=I.list hq;refine SeqAt.notIn_listAt (eqU x) pl.isList (fun w hw=>Z4 rx fx r fs w (by simpa using hw)) ⟨.bl _,H,I,rfl,?_⟩
   rw[show its.toArray.any (eqU x)=its.any (eqU x) by simp,a1v r fs]
   exact q
 · obtain⟨its,r,pl,hz⟩:=I.tuple hq;refine SeqAt.notIn_tupleAt (eqU x) pl (fun w hw=>Z4 rx fx r fs w (by simpa using hw)) ⟨.bl _,H,I,rfl,?_⟩
   rw[show its.toArray.any (eqU x)=its.any (eqU x) by simp,a1v r fs]
   exact q
theorem a4H:OpR X (compareOp .NotIn) (fun x y H Q=>∃i j,x=.str i/\y=.str j/\Q (.bl (!(!(Builtin.Str.occurrences j i 0 j.length 1).isEmpty))) H):=by
 intro pins s σ H x y v u Q I rx ry h;obtain⟨i,j,rfl,rfl,q⟩:=h;obtain⟨t,rfl⟩:=rx;obtain⟨t',rfl⟩:=ry;exact notIn_str ⟨.bl _,H,I,rfl,q⟩
theorem a1u:C6 X (.builtin "len") (fun xs H Q=>∃p ys,xs=[.ref p]/\(SqL X.K H p ys∨SqT X.K H p ys)/\Q (.int ys.length) H):=by
 intro pins s σ H xs us Q I r h;obtain⟨p,ys,rfl,hq,q⟩:=h;obtain⟨u,rfl,rx⟩:=Q0 r;cases rx;have hn:=a0O
 rcases hq with hq|hq
 · obtain⟨its,r',pl,hz⟩:=I.list hq;have hlen:=r'.length;exact Calls.call_len_list pl.isList (by simp only[size_toArray]<;>omega) ⟨.int ys.length,H,I.tok _,⟨s.toks+1,by rw[size_toArray,hlen]⟩,q⟩
 · obtain⟨its,r',pl,hz⟩:=I.tuple hq;have hlen:=r'.length;exact len_tuple pl (by simp only[size_toArray]<;>omega) ⟨.int ys.length,H,I.tok _,⟨s.toks+1,by rw[size_toArray,hlen]⟩,q⟩
theorem a5r:C6 X (.builtin "len") (fun xs H Q=>∃z,xs=[.str z]/\z.length<=sizeLine/\Q (.int z.length) H):=by
 intro pins s σ H xs us Q I r h;obtain⟨z,rfl,hz,q⟩:=h;obtain⟨u,rfl,t,rfl⟩:=Q0 r;have hn:=a0O;exact len_str (by omega) ⟨.int z.length,H,I.tok _,⟨_,rfl⟩,q⟩
theorem a1t:C6 X (.type "list") (fun xs H Q=>∃p ys,xs=[.ref p]/\(SqL X.K H p ys∨SqT X.K H p ys)/\∀l,H l=none->Q (.ref l) (upd H l (.lst ys))):=by
 intro pins s σ H xs us Q I r h;obtain⟨p,ys,rfl,hq,q⟩:=h;obtain⟨u,rfl,rx⟩:=Q0 r;cases rx
 have fin:∀(its:List Value),i7 ys its->ys.length<=sizeLine->∀(h':Heap) (c':Nat),(∀b o',s.heap.get? b=some o'->h'.get? b=some o')→
  h'.get? s.heap.objs.size=some {cls:=.type "list",dict:=none,data:=.seq its.toArray c',slots:= #[]}->EP X pins σ Q (.ref s.heap.objs.size) {s with heap:=h'}:=fun its r' hz h' c' kp e=>
  ⟨.ref s.heap.objs.size,_,I.laid (t':=s.toks) kp (ai _) (show p0 X.prog X.w _ h' _ (.lst ys) from⟨hz,its,c',r',e⟩),rfl,q _ (I.hok.fresh (ai _))⟩
 rcases hq with hq|hq
 · obtain⟨its,r',pl,hz⟩:=I.list hq;have hlen:=r'.length;obtain⟨o,ho,hc,n,hd⟩:=pl.isList;exact call_list_seq p (.inl rfl) ho hc hd (fun h' c' kp e=>fin its r' hz h' c' kp e) (by simp only[size_toArray]<;>omega)
 · obtain⟨its,r',pl,hz⟩:=I.tuple hq;have hlen:=r'.length;obtain⟨o,ho,hc,n,hd⟩:=pl;exact call_list_seq p (.inr rfl) ho hc hd (fun h' c' kp e=>fin its r' hz h' c' kp e) (by simp only[size_toArray]<;>omega)
theorem a0G:C6 X (.type "tuple") (fun xs H Q=>∃p ys,xs=[.ref p]/\((SqL X.K H p ys/\∀l,H l=none->Q (.ref l) (upd H l (.tup ys)))∨(SqT X.K H p ys/\Q (.ref p) H))):=by
 intro pins s σ H xs us Q I r h;obtain⟨p,ys,rfl,h⟩:=h;obtain⟨u,rfl,rx⟩:=Q0 r;cases rx
 rcases h with⟨hq,q⟩|⟨hq,q⟩
 · obtain⟨its,r',pl,hz⟩:=I.list hq;have hlen:=r'.length;refine call_tuple_list pl.isList (fun h' kp=>?_) (by simp only[size_toArray]<;>omega)
   have I1:Inv X pins σ H {s with heap:=h'}:=I.kept (t':=s.toks) kp
   have I2:Inv X pins σ (upd H h'.objs.size (.tup ys)) {s with heap:=h'.push {cls:=.type "tuple",data:=.seq its.toArray}}:=
    I1.laid (t':=s.toks) (fun b o e=>Heap.get?_push_of_some _ e) (ai _) (show p0 X.prog X.w _ _ _ (.tup ys) from⟨hz,its,r',a0j.new _ _⟩)
   exact⟨.ref h'.objs.size,_,I2,rfl,q _ (I1.hok.fresh (ai _))⟩
 · obtain⟨its,r',pl,hz⟩:=I.tuple hq;exact call_tuple_same pl ⟨.ref p,H,I,rfl,q⟩
def tyV(K:PySem.W.Frag)(T:String)(x:V)(H:Hp):Prop:=match x with
 |.str _=>T="str"
 |.int _=>T="int"
 |.ref p=>(T="list"/\∃xs,SqL K H p xs)∨(T="tuple"/\∃o,K.lookup p=some o/\o.cls=.type "tuple"/\o.dict=none)∨
  (T="dict"/\((∃kvs,H p=some (.dK kvs))∨∃kvs,H p=some (.dT kvs)))∨(T="set"/\∃S n,H p=some (.set S n))
 |_=>False
theorem b5q{s:Shared}{T:String}{x:V}{v:Value}(I:Inv X pins σ H s)(r:f6 x v)(ty:tyV X.K T x H):
 s.TypeIs v T/\∀a,v=.ref a->∃ob,s.heap.get? a=some ob/\ob.dict=none:=by
 cases x with
 |str z=>
  obtain⟨t,rfl⟩:=r
  cases (show T="str" from ty)
  exact⟨typeIs_str s z t,fun _ e=>nomatch e⟩
 |int i=>
  obtain⟨t,rfl⟩:=r
  cases (show T="int" from ty)
  exact⟨typeIs_int s i t,fun _ e=>nomatch e⟩
 |ref p=>
  cases r
  rcases ty with⟨rfl,xs,hq⟩|⟨rfl,o,hk,hc,hd⟩|⟨rfl,hk⟩|⟨rfl,S,n,hk⟩
  · obtain⟨its,_,pl,_⟩:=I.list hq;refine⟨pl.isList.typeIs,fun a e=>?_⟩
    cases e;obtain⟨o,n,e,c,hd,_⟩:=pl;exact⟨o,e,hd⟩
  · refine⟨⟨o,I.kIn p o hk,hc⟩,fun a e=>?_⟩
    cases e;exact⟨o,I.kIn _ o hk,hd⟩
  · have z:∃o,s.heap.get? p=some o/\o.ExactDict:=by
     rcases hk with⟨kvs,hk⟩|⟨kvs,hk⟩
     · obtain⟨_,_,_,_,o,_,_,e,ex,_⟩:=I.hok p _ hk;exact⟨o,e,ex⟩
     · obtain⟨_,_,_,_,o,_,_,e,ex,_⟩:=I.hok p _ hk;exact⟨o,e,ex⟩
    obtain⟨o,e,ex⟩:=z;refine⟨⟨o,e,ex.1⟩,fun a e2=>?_⟩
    cases e2;exact⟨o,e,ex.2.1⟩
  · obtain⟨o,_,_,_,e,ex,_⟩:=I.hok p _ hk;refine⟨⟨o,e,ex.1⟩,fun a e2=>?_⟩
    cases e2;exact⟨o,e,ex.2.1⟩
 |_=>exact False.elim ty
def tBM(K:PySem.W.Frag)(T:String)(r:V->List V->Hp->VK->Prop)(to:TE)(t:TA):TE:=fun σ H Q=>to σ H fun x H1=>tyV K T x H1/\t σ H1 fun xs H2=>r x xs H2 Q
variable{o e:Expr}{es:List Expr}{to:TE}{t:TA}{name:Str}{apos cpos:Pos}{T:String}{r:V->List V->Hp->VK->Prop}
theorem a5V(pa:PlainAttrs T)(slot:Slot T name id)(hty:typeOf (.builtin id)=pure (.type "method_descriptor"))(hm:MtR X id r)(ho:PE X o to)(ha:PA X (e::es) t)
 (hbase:attributeBase o name X.env (eval o X.env)=eval o X.env:=by rfl)
 (hfew:((backTo cpos (starEach (e::es) X.env)).all (fun x=>!x.1)&&(backToKw cpos (keywordEach [] X.env)).all (fun x=>x.1.isSome)
  &&decide ((e::es).length+([]:List Keyword).length+(if([]:List Keyword).isEmpty then 0 else 1)<30))=true:=by rfl)
 (hline:(apos.endLine==cpos.line)=true:=by rfl) (hs:starEach (e::es) X.env=(false,eval e X.env)::starEach es X.env:=by rfl) (hplain:(backTo cpos (starEach es X.env)).any (·.1)=false:=by rfl):
 PE X (.Call (.Attribute o name apos) (e::es) [] cpos) (tBM X.K T r to t):=by
 intro pins s σ H Q I h;refine wpAny_Call_method_late hbase hfew hline rfl (thn (ho pins s σ H _ I h) fun v s1 zz=>?_)
 obtain⟨x,H1,I1,r1,ty,q1⟩:=zz;obtain⟨h1,h2⟩:=b5q I1 r1 ty;refine⟨T,id,pa,slot,hty,h1,h2,?_⟩
 have hA:=ha cpos pins s1 σ H1 _ I1 q1;rw[hs] at hA⊢;refine Calls.callWith_builtin (by show(false||(backTo cpos (starEach es X.env)).any (·.1))=false;rw[hplain]<;>rfl) (Calls.evalArgs_plain ?_)
 exact thn hA fun us s2 ⟨vs,H2,I2,r2,q2⟩=>hm pins s2 σ H2 x vs v us Q I2 r1 r2 q2
end
def MtM(X:Cx)(id:String)(r:V->List V->Hp->VK->Prop):Prop:=
 ∀(pins:List (Addr×Obj)) (s:Shared) (σ:St) (H:Hp) (x:V) (xs:List V) (v:Value) (us:List Value) (Q:VK),Inv X pins σ H s->f6 x v->i7 xs us->r x xs H Q→
  wpAny (model X.prog X.w) X.A (call (.builtin id) (v::us)) (EP X pins σ Q) X.xe s
theorem i7.one:∀{x:V} {us:List Value},i7 [x] us->∃u,us=[u]/\f6 x u
 |_,_,.cons r .nil=>⟨_,rfl,r⟩
theorem i7.reverse{xs:List V}(h:i7 xs us):i7 xs.reverse us.reverse:=by
 induction h with
 |nil=>exact .nil
 |cons r t ih=>rw[reverse_cons,reverse_cons];exact i7.append ih (.cons r .nil)
theorem i7.rep{xs:List V}{us:List Value}(h:i7 xs us):∀k:Nat,i7 (List.replicate k xs).flatten (List.replicate k us).flatten
 |0=>.nil
 |k+1=>by
  rw[replicate_succ,replicate_succ,flatten_cons,flatten_cons];exact i7.append h (i7.rep h k)
theorem a3V(its:List Value):∀(k:Nat) (acc:List Value),
 List.foldl (fun x1 x2=>x1++x2) acc.toArray (List.replicate k its.toArray)=(acc++(List.replicate k its).flatten).toArray
 |0,acc=>by simp
 | k+1,acc=>by
  have e:acc.toArray++its.toArray=(acc++its).toArray:=by simp
  have e2:(acc++its)++(List.replicate k its).flatten=acc++(List.replicate (k+1) its).flatten:=by
   rw[replicate_succ,flatten_cons,aA]
  rw[←e2,←a3V its k (acc++its),←e,replicate_succ,foldl_cons]
section
variable{X:Cx}{s:Shared}{l b:Addr}{xs zs:List V}
theorem Inv.lset{f:Array Value->Array Value}{t':Nat}(I:Inv X pins σ H s)(hH:H l=some (.lst xs))
 (e:s.heap.get? l=some {cls:=.type "list",data:=.seq its.toArray n}) (hf:f its.toArray=its'.toArray) (hv:i7 ys its') (hz:ys.length<=sizeLine):
 Inv X pins σ (upd H l (.lst ys)) {s with heap:=s.heap.update l (Obj.mapSeq f),toks:=t'}:=by
 have q:=PySem.IsL.update e f;rw[hf] at q;refine I.write (x:=l) (e:=l) (by rw[hH];exact trivial) (.inl rfl) (fun b' u hb hu=>(Heap.get?_update_other s.heap (Obj.mapSeq f) (Ne.symm hb)).trans hu) ⟨_,q⟩ ?_
 exact⟨hz,its',_,hv,q⟩
theorem Inv.lnew{t':Nat}(I:Inv X pins σ H s)(hv:i7 ys its)(hz:ys.length<=sizeLine):
 Inv X pins σ (upd H s.heap.objs.size (.lst ys)) {s with heap:=s.heap.push {cls:=.type "list",data:=.seq its.toArray},toks:=t'}:=
 I.laid (fun _ _ q=>Heap.get?_push_of_some _ q) (ai _) ⟨hz,its,0,hv,Heap.get?_push_size _ rfl⟩
theorem Inv.fresh(I:Inv X pins σ H s):H s.heap.objs.size=none:=I.hok.fresh (ai _)
theorem Inv.lstM(I:Inv X pins σ H s)(hH:H l=some (.lst xs)):xs.length<=sizeLine/\∃(its:List Value) (n:Nat),i7 xs its/\xs.length=its.length/\s.heap.get? l=some {cls:=.type "list",data:=.seq its.toArray n}:=by
 obtain⟨z,its,n,r,e⟩:=I.hok l _ hH;exact⟨z,its,n,r,r.length,e⟩
theorem a5Z(h:n<=sizeLine):Builtin.List.listTooLong n=false:=by
 unfold Builtin.List.listTooLong;exact bB (by omega)
end
section
variable{X:Cx}
def b3j:V->List V->Hp->VK->Prop:=fun x vs H Q=>∃l xs y,x=.ref l/\vs=[y]/\H l=some (.lst xs)/\xs.length<sizeLine/\Q .non (upd H l (.lst (xs++[y])))
theorem a3O:MtM X "list.append" b3j:=by
 intro pins s σ H x vs v us Q I rx rv h;obtain⟨l,xs,y,rfl,rfl,hH,hz,q⟩:=h;cases rx;obtain⟨u,rfl,ru⟩:=rv.one;obtain⟨z,its,n,r,hl,e⟩:=I.lstM hH;refine call_meets F.slot_list_append ⟨_,e,rfl⟩ F.entry_list_append (F.args_list_append_2 _ _) (PySem.list_append l its.toArray n u (by rw[size_toArray];omega)) ⟨e,?_⟩
 refine⟨.non,_,I.lset (its':=its++[u]) hH e (by simp) (r.append (.cons ru .nil)) ?_,rfl,q⟩
 rw[ao,List.length_singleton];omega
def b3i:V->List V->Hp->VK->Prop:=fun x vs H Q=>∃l b xs zs,x=.ref l/\vs=[.ref b]/\H l=some (.lst xs)/\H b=some (.lst zs)/\xs.length+zs.length<=sizeLine/\Q .non (upd H l (.lst (xs++zs)))
theorem a9f:MtM X "list.extend" b3i:=by
 intro pins s σ H x vs v us Q I rx rv h;obtain⟨l,b,xs,zs,rfl,rfl,hH,hB,hz,q⟩:=h;cases rx;obtain⟨u,rfl,ru⟩:=rv.one;cases ru;obtain⟨z,its,n,r,hl,e⟩:=I.lstM hH;obtain⟨z2,its2,n2,r2,hl2,e2⟩:=I.lstM hB
 have hsz:its.toArray.size+its2.toArray.size<=sizeLine:=by rw[size_toArray,size_toArray];omega
 have hlong:¬(!its.toArray.isEmpty&&Builtin.List.listTooLong (its.toArray.size+its2.toArray.size))=true:=by
  rw[a5Z hsz,Bool.and_false];exact bv
 refine call_meets F.slot_list_extend ⟨_,e,rfl⟩ F.entry_list_extend (F.args_list_extend_2 _ _)
  (AutoSeq1.list_extend_list_list_0 l its.toArray n b its2.toArray n2 hlong (by rw[size_toArray];omega) (by omega)) ⟨e,e2,?_⟩
 refine⟨.non,_,I.lset (its':=its++its2) hH e (by simp) (r.append r2) ?_,rfl,q⟩
 rw[ao];omega
def c0R:R2:=fun x y H Q=>∃l b xs zs,x=.ref l/\y=.ref b/\H l=some (.lst xs)/\H b=some (.lst zs)/\xs.length+zs.length<=sizeLine/\∀p,H p=none->Q (.ref p) (upd H p (.lst (xs++zs)))
theorem b6r:OpR X (binaryOp .Add) c0R:=by
 intro pins s σ H x y v u Q I rx ry h;obtain⟨l,b,xs,zs,rfl,rfl,hH,hB,hz,q⟩:=h;cases rx;cases ry;obtain⟨z,its,n,r,hl,e⟩:=I.lstM hH;obtain⟨z2,its2,n2,r2,hl2,e2⟩:=I.lstM hB;refine PySem.P.add_list e e2 ?_ (by rw[size_toArray,size_toArray];omega)
 have ea:its.toArray++its2.toArray=(its++its2).toArray:=by simp
 rw[ea];exact⟨.ref _,_,I.lnew (t':=s.toks) (r.append r2) (by rw[ao];omega),rfl,q _ I.fresh⟩
def c0M:R2:=fun x y H Q=>∃l k xs,x=.ref l/\y=.int k/\H l=some (.lst xs)/\ -(2^63)<=k/\k<2^63/\xs.length*k.toNat<=sizeLine∧
 ∀p,H p=none->Q (.ref p) (upd H p (.lst (List.replicate k.toNat xs).flatten))
theorem b3S(xs:List α)(k:Nat):(List.replicate k xs).flatten.length=k*xs.length:=by
 induction k with
 |zero=>simp
 |succ k ih=>rw[replicate_succ,flatten_cons,ao,ih,Nat.succ_mul,Nat.add_comm]
theorem b6m:OpR X (binaryOp .Mult) c0M:=by
 intro pins s σ H x y v u Q I rx ry h;obtain⟨l,k,xs,rfl,rfl,hH,h1,h2,hz,q⟩:=h;cases rx;obtain⟨t,rfl⟩:=ry;obtain⟨z,its,n,r,hl,e⟩:=I.lstM hH
 have hlen:its.toArray.size*k.toNat<=sizeLine:=by rw[size_toArray,←hl];exact hz
 have hcap:¬its.toArray.size*k.toNat>(2^63-1)/8:=by
  have:(sizeLine:Nat)<=(2^63-1)/8:=by decide
  omega
 have hfit:¬(!Builtin.List.listFitsIndex k)=true:=by
  rw[fitsIndex_both h1 h2];exact bv
 have hlong:¬Builtin.List.listTooLong (its.toArray.size*k.toNat)=true:=by
  rw[a5Z hlen];exact bv
 have hnew:List.foldl (fun x1 x2=>x1++x2) #[] (List.replicate (if its.toArray.isEmpty=true then 0 else k.toNat) its.toArray)=(List.replicate k.toNat its).flatten.toArray:=by
  have f0:∀m:Nat,List.foldl (fun x1 x2=>x1++x2) #[] (List.replicate m its.toArray)=(List.replicate m its).flatten.toArray:=fun m=>by
   have:=a3V its m []
   rw[nil_append] at this;exact this
  rw[f0]
  cases its with
  |nil=>simp
  |cons a r'=>rw[az (by simp)]
 refine wpAny_binaryOp_repeat_ref (T:="list") (U:="int") (by decide) ⟨_,e,rfl⟩ (fun s'=>typeIs_int s' k t) noFill_list_mul F.fills_int_mul F.slot_int_rmul repeat_list F.slot_int_index.lookup
  (call_meets F.slot_int_rmul (typeIs_int s k t) F.entry_int_rmul (F.args_int_rmul_2 _ _) (int___rmul___int_list k t l its.toArray n)
   ⟨e,rfl,⟨_,e,rfl⟩,call_meets F.slot_list_mul ⟨_,e,rfl⟩ F.entry_list_mul (F.args_list_mul_2 _ _) (AutoListH.list___mul___list_int_3 l its.toArray n k t hfit hcap hlong) ⟨e,?_⟩⟩)
 rw[hnew];exact⟨.ref _,_,I.lnew (t':=s.toks) (r.rep k.toNat) (by rw[b3S,Nat.mul_comm];exact hz),rfl,q _ I.fresh⟩
end
variable{b:Addr}{sl:Addr}{items:Array Value}{vl:Value}{vu:Value}
section
variable{κ:Type}[DecidableEq κ]
noncomputable def U4(kvs:List (κ×V))(k:κ):Option V:=(kvs.find? fun kv=>decide (kv.1=k)).map (·.2)
noncomputable def N6(kvs:List (κ×V))(k:κ)(v:V):List (κ×V):=
 if(kvs.any fun kv=>decide (kv.1=k))=true then kvs.map (fun kv=>if kv.1=k then(kv.1,v) else kv) else kvs++[(k,v)]
theorem Y7{p:κ×V}{r:List (κ×V)}{k:κ}(e:p.1=k):U4 (p::r) k=some p.2:=by simp[U4,List.find?_cons,e]
theorem Y8{p:κ×V}{r:List (κ×V)}{k:κ}(e:¬p.1=k):U4 (p::r) k=U4 r k:=by simp[U4,List.find?_cons,e]
theorem a5D(k:κ):∀kvs:List (κ×V),(kvs.any fun kv=>decide (kv.1=k))=(U4 kvs k).isSome
 |[]=>rfl
 |p::r=>by
  rw[any_cons]
  by_cases e:p.1=k
  · simp only[Y7 e,bm e,Bool.true_or,Option.isSome_some]
  · rw[Y8 e,bB e,Bool.false_or];exact a5D k r
theorem Z5(kvs:List (κ×V))(k:κ)(v:V):(N6 kvs k v).length<=kvs.length+1:=by
 unfold N6
 split
 · rw[aa];omega
 · rw[ao,length_cons,length_nil];omega
theorem a0y.isSome_eq{o:Option V}{u:Option Value}(r:a0y o u):o.isSome=u.isSome:=by
 cases o with
 |none=>cases u with
  |none=>rfl
  |some _=>exact(show False from r).elim
 |some _=>cases u with
  |none=>exact(show False from r).elim
  |some _=>rfl
theorem a0y.getD{o:Option V}{u:Option Value}{d:V}{d':Value}(r:a0y o u)(rd:f6 d d'):f6 (o.getD d) (u.getD d'):=by
 cases o with
 |none=>cases u with
  |none=>exact rd
  |some _=>exact(show False from r).elim
 |some _=>cases u with
  |none=>exact(show False from r).elim
  |some _=>exact r
theorem KV.val{kvs:List (κ×V)}{vs:List (κ×Value)}(r:KV kvs vs)(k:κ):a0y (U4 kvs k) (valueAt vs k):=by
 unfold KV at r
 induction r with
 |nil=>exact True.intro
 | @cons p q ps qs h t ih=>
  obtain⟨h1,h2⟩:=h
  by_cases e:p.1=k
  · have e':q.1=k:=h1.symm.trans e
    have b:valueAt (q::qs) k=some q.2:=by simp[valueAt,List.find?_cons,e']
    rw[Y7 e,b];exact h2
  · have e':¬q.1=k:=fun z=>e (h1.trans z)
    have b:valueAt (q::qs) k=valueAt qs k:=by simp[valueAt,List.find?_cons,e']
    rw[Y8 e,b];exact ih
theorem KV.any{kvs:List (κ×V)}{vs:List (κ×Value)}(r:KV kvs vs)(k:κ):(kvs.any fun kv=>decide (kv.1=k))=vs.any fun kv=>decide (kv.1=k):=by
 unfold KV at r
 induction r with
 |nil=>rfl
 |cons h t ih=>rw[any_cons,any_cons,ih,h.1]
theorem KV.repl{kvs:List (κ×V)}{vs:List (κ×Value)}(r:KV kvs vs)(k:κ)(ry:f6 y u):
 KV (kvs.map fun kv=>if kv.1=k then(kv.1,y) else kv) (vs.map fun kv=>if kv.1=k then(kv.1,u) else kv):=by
 unfold KV at r⊢
 induction r with
 |nil=>exact .nil
 | @cons p q ps qs h t ih=>
  rw[map_cons,map_cons];refine .cons ?_ ih
  obtain⟨h1,h2⟩:=h
  by_cases e:p.1=k
  · rw[ay e,ay (h1.symm.trans e)];exact⟨h1,ry⟩
  · rw[az e,az (fun z=>e (h1.trans z))];exact⟨h1,h2⟩
theorem KV.put{kvs:List (κ×V)}{vs:List (κ×Value)}(r:KV kvs vs)(k:κ)(ry:f6 y u):KV (N6 kvs k y) (stored vs k u):=by
 unfold N6 stored;rw[r.any k]
 by_cases e:(vs.any fun kv=>decide (kv.1=k))=true
 · rw[ay e,ay e];exact r.repl k ry
 · rw[az e,az e];exact Paired.snoc r ⟨rfl,ry⟩
theorem KV.length{kvs:List (κ×V)}{vs:List (κ×Value)}(r:KV kvs vs):kvs.length=vs.length:=Paired.length r
end
variable{P:Program}{w:World}
theorem Z8{k:Key}(r:f6 (kV k) u):(n9 P w).is k u=true:=by
 cases k with
 |inl i=>obtain⟨t,e⟩:=(show∃t,u=Value.int i t from r);subst e;exact a6d P w i t
 |inr x=>obtain⟨t,e⟩:=(show∃t,u=Value.str x t from r);subst e;exact a6c P w x t
theorem a3R{P:Program}{w:World}:∀{ks:List Key} {us:List Value},i7 (ks.map kV) us->ItemsAre (n9 P w) ks us
 |[],_,r=>by rw[map_nil] at r;cases r;exact .nil
 |k::ks,_,r=>by
  rw[map_cons] at r
  cases r with
  |cons h t=>exact .cons (Z8 h) (a3R t)
abbrev KT(H:Hp):List (List Key×V)->List (List Key×Addr×Value)->Prop:=Paired fun p q=>p.1=q.1/\H q.2.1=some (.tup (p.1.map kV))/\f6 p.2 q.2.2
variable{kvs:List (List Key×V)}{xs:List (List Key×Addr×Value)}
theorem KT.val(r:KT H kvs xs)(k:List Key):a0y (U4 kvs k) ((atKey xs k).map (·.2)):=by
 induction r with
 |nil=>exact True.intro
 | @cons p q ps qs h t ih=>
  obtain⟨h1,_,h2⟩:=h
  by_cases e:p.1=k
  · have e':q.1=k:=h1.symm.trans e
    have b:atKey (q::qs) k=some q.2:=by simp[atKey,List.find?_cons,e']
    rw[Y7 e,b];exact h2
  · have e':¬q.1=k:=fun z=>e (h1.trans z)
    have b:atKey (q::qs) k=atKey qs k:=by simp[atKey,List.find?_cons,e']
    rw[Y8 e,b];exact ih
theorem KT.repl(r:KT H kvs xs)(k:List Key)(ry:f6 y u):
 KT H (kvs.map fun kv=>if kv.1=k then(kv.1,y) else kv) (xs.map (putAt k u)):=by
 induction r with
 |nil=>exact .nil
 | @cons p q ps qs h t ih=>
  rw[map_cons,map_cons];refine .cons ?_ ih
  obtain⟨h1,h2,h3⟩:=h;unfold putAt
  by_cases e:p.1=k
  · rw[ay e,ay (h1.symm.trans e)];exact⟨h1,h2,ry⟩
  · rw[az e,az (fun z=>e (h1.trans z))];exact⟨h1,h2,h3⟩
theorem KT.put(r:KT H kvs xs)(k:List Key)(hb:H b=some (.tup (k.map kV)))(ry:f6 y u):
 KT H (N6 kvs k y) (storedH xs k b u):=by
 have e:(kvs.any fun kv=>decide (kv.1=k))=(atKey xs k).isSome:=by
  rw[a5D,(r.val k).isSome_eq,Option.isSome_map]
 unfold N6 storedH;rw[e]
 by_cases q:(atKey xs k).isSome=true
 · rw[ay q,ay q];exact r.repl k ry
 · rw[az q,az q];exact Paired.snoc r ⟨rfl,hb,ry⟩
variable{H':Hp}
theorem KT.keeps(r:KT H kvs xs)(ht:∀b ys,H b=some (.tup ys)->H' b=some (.tup ys)):KT H' kvs xs:=
 Paired.mapP r fun _ _ z=>⟨z.1,ht _ _ z.2.1,z.2.2⟩
section
variable{h:Heap}{a:Addr}
theorem rd_of{u:HO}(ok:HOk P w H h)(e:Rd H a u):p0 P w H h a u:=e.ok ok
theorem a1W{kvs:List (Key×V)}(ok:HOk P w H h)(e:Rd H a (.dK kvs)):kvs.length<=sizeLine/\(a==sysModules)=false/\∃vs,KV kvs vs/\h.DictOf (n9 P w) a vs:=
 show p0 P w H h a (.dK kvs) from rd_of ok e
theorem b5i{kvs:List (Key×V)}(ok:HOk P w H h)(e:H a=some (.dK kvs)):kvs.length<=sizeLine/\(a==sysModules)=false/\∃vs,KV kvs vs/\h.DictOf (n9 P w) a vs:=a1W ok (.inl e)
theorem a0P{ks:List Key}(ok:HOk P w H h)(e:H a=some (.tup (ks.map kV))):(tupleKind (n9 P w)).is h ks a:=by
 obtain⟨_,its,r,o,h1,h2,_,n,h3⟩:=(show p0 P w H h a (.tup (ks.map kV)) from ok a _ e);exact⟨o,its.toArray,n,h1,h2,h3,by simpa using a3R r⟩
theorem a3d(ok:HOk P w H h)(e:Rd H a (.dT kvs)):kvs.length<=sizeLine/\(a==sysModules)=false∧
 ∃xs,KT H kvs xs/\h.DictOfH (tupleKind (n9 P w)) a xs:=by
 obtain⟨z,y,xs,r,o,es,ep,h1,h2,h3,h4,h5⟩:=(show p0 P w H h a (.dT kvs) from rd_of ok e);refine⟨z,y,xs,r,o,es,ep,h1,h2,h3,h4,fun x hx=>?_,h5⟩
 have all:∀{l:List (List Key×V)} {m:List (List Key×Addr×Value)},KT H l m->∀x∈m,(tupleKind (n9 P w)).is h x.1 x.2.1:=by
  intro l m q
  induction q with
  |nil=>intro x hx;exact nomatch hx
  | @cons p q ps qs hq t ih=>
   intro x hx
   rcases aE.mp hx with e|hx
   · subst e;exact a0P ok (by rw[←hq.1];exact hq.2.1)
   · exact ih x hx
 exact all r x hx
theorem b9G(ok:HOk P w H h)(e:H a=some (.dT kvs)):kvs.length<=sizeLine/\(a==sysModules)=false∧
 ∃xs,KT H kvs xs/\h.DictOfH (tupleKind (n9 P w)) a xs:=a3d ok (.inl e)
end
def a7x(H:Hp)(a:Addr)(y:V)(r:Option V):Prop:=
 (∃kvs k,Rd H a (.dK kvs)/\y=kV k/\r=U4 kvs k)∨∃kvs k b,Rd H a (.dT kvs)/\y=.ref b/\H b=some (.tup (k.map kV))/\r=U4 kvs k
def c1T(H:Hp)(a:Addr)(y v:V)(H':Hp):Prop:=
 (∃kvs k,H a=some (.dK kvs)/\y=kV k/\kvs.length<sizeLine/\H'=upd H a (.dK (N6 kvs k v)))∨
 ∃kvs k b,H a=some (.dT kvs)/\y=.ref b/\H b=some (.tup (k.map kV))/\kvs.length<sizeLine/\H'=upd H a (.dT (N6 kvs k v))
variable{a:Addr}{v:V}{Q:Value->Shared->Prop}{h':Heap}
section
variable{X:Cx}{s:Shared}{r:Value}{o:Option V}{E:Value->Shared->Prop}
theorem Inv.big(I:Inv X pins σ H s):sysModules<s.heap.objs.size:=by
 have h:mainGlobals<s.heap.objs.size:=(I.mod.glob.keeps I.bk).lt
 exact Nat.lt_trans (by decide) h
theorem a9x(hu:A.units+1<cLine)(I:Inv X pins σ H s)(g:a7x H a y (some v))(ry:f6 y u)(h:∀w' s',Inv X pins σ H s'->f6 v w'->Q w' s'):
 wpAny (model X.prog X.w) A (getItem (.ref a) u) Q E s:=by
 rcases g with⟨kvs,k,e,ey,l⟩|⟨kvs,k,b,e,ey,eb,l⟩
 · subst ey;obtain⟨z,hd,vs,rel,dd⟩:=a1W I.hok e;obtain⟨w',hw,rw'⟩:=a0y.some_of (v:=v) (o:=valueAt vs k) (by rw[l];exact rel.val k)
   exact wpAny_getItem_of (Z8 ry) dd.mapOf hw (h w' _ (I.tok _) rw')
 · subst ey
   cases (show u=Value.ref b from ry)
   obtain⟨z,hd,xs,rel,dd⟩:=a3d I.hok e;obtain⟨w',hw,rw'⟩:=a0y.some_of (v:=v) (o:=(atKey xs k).map (·.2)) (by rw[l];exact rel.val k)
   obtain⟨p,hp,hp2⟩:=Option.map_eq_some_iff.mp hw;refine wpAny_getItem_heap (tupleKind_room_in1 hu) (a0P I.hok eb) dd hp ?_
   rw[hp2];exact h w' _ (I.tok _) rw'
theorem c1l(hu:A.units+1<cLine)(I:Inv X pins σ H s)(g:a7x H a y o)(ry:f6 y u)(h:∀s',Inv X pins σ H s'->Q (.bool o.isSome) s'):
 wpAny (model X.prog X.w) A (compareOp .In u (.ref a)) Q E s:=by
 rcases g with⟨kvs,k,e,ey,l⟩|⟨kvs,k,b,e,ey,eb,l⟩
 · subst ey;obtain⟨z,hd,vs,rel,dd⟩:=a1W I.hok e;refine wpAny_in_of (Z8 ry) hd dd.mapOf ?_
   rw[←(rel.val k).isSome_eq,←l];exact h _ (I.tok _)
 · subst ey
   cases (show u=Value.ref b from ry)
   obtain⟨z,hd,xs,rel,dd⟩:=a3d I.hok e;refine wpAny_in_heap (tupleKind_room_in1 hu) (a0P I.hok eb) hd dd ?_
   have q:=(rel.val k).isSome_eq;rw[Option.isSome_map] at q;rw[←q,←l];exact h _ (I.tok _)
theorem b4K(hu:A.units+1<cLine)(I:Inv X pins σ H s)(g:a7x H a y o)(ry:f6 y u)(h:∀s',Inv X pins σ H s'->Q (.bool (!o.isSome)) s'):
 wpAny (model X.prog X.w) A (compareOp .NotIn u (.ref a)) Q E s:=by
 rcases g with⟨kvs,k,e,ey,l⟩|⟨kvs,k,b,e,ey,eb,l⟩
 · subst ey;obtain⟨z,hd,vs,rel,dd⟩:=a1W I.hok e;refine wpAny_notIn_of (Z8 ry) hd dd.mapOf ?_
   rw[←(rel.val k).isSome_eq,←l];exact h _ (I.tok _)
 · subst ey
   cases (show u=Value.ref b from ry)
   obtain⟨z,hd,xs,rel,dd⟩:=a3d I.hok e;refine wpAny_notIn_heap (tupleKind_room_in1 hu) (a0P I.hok eb) hd dd ?_
   have q:=(rel.val k).isSome_eq;rw[Option.isSome_map] at q;rw[←q,←l];exact h _ (I.tok _)
theorem a5m{t':Nat}{ob:HO}(I:Inv X pins σ H s)(mu:Mut (H a))(hs:Heap.SameBut a s.heap h')(he:∃q,h'.get? a=some q)(new:p0 X.prog X.w (upd H a ob) h' a ob):
 Inv X pins σ (upd H a ob) {s with heap:=h',toks:=t'}:=
 I.write (x:=a) (e:=a) mu (.inl rfl) (fun b q hb z=>(hs.2 b hb).trans z) he new
theorem a7p{kvs:List (Key×V)}{vs:List (Key×Value)}(z:kvs.length<=sizeLine)(hd:(a==sysModules)=false)(rel:KV kvs vs)(dd:h'.DictOf (n9 P w) a vs):
 p0 P w H' h' a (.dK kvs):=⟨z,hd,vs,rel,dd⟩
theorem a4c{Q:Unit->Shared->Prop}(hu:A.units+1<cLine)(I:Inv X pins σ H s)(g:c1T H a y v H')(ry:f6 y u)(rv:f6 v r)(h:∀s',Inv X pins σ H' s'->Q () s'):
 wpAny (model X.prog X.w) A (setItem (.ref a) u r) Q E s:=by
 rcases g with⟨kvs,k,e,ey,l,eH⟩|⟨kvs,k,b,e,ey,eb,l,eH⟩
 · subst ey eH;obtain⟨z,hd,vs,rel,dd⟩:=b5i I.hok e
   have hz:vs.length<=sizeLine:=by rw[←rel.length];exact z
   have hl:(N6 kvs k v).length<=sizeLine:=by have:=Z5 kvs k v;omega
   refine wpAny_setItem_pairs (hsz:=hz) (Z8 ry) dd fun h' dd' hs=>h _ ?_
   have he:∃q,h'.get? a=some q:=let⟨q,_,_,hq,_⟩:=dd';⟨q,hq⟩
   exact a5m I (by rw[e];exact True.intro) hs he (a7p hl hd (rel.put k rv) dd')
 · subst ey eH
   cases (show u=Value.ref b from ry)
   obtain⟨z,hd,xs,rel,dd⟩:=b9G I.hok e
   have hz:xs.length<=sizeLine:=by rw[←Paired.length rel];exact z
   have hl:(N6 kvs k v).length<=sizeLine:=by have:=Z5 kvs k v;omega
   refine wpAny_setItem_heap (hsz:=hz) (tupleKind_room_in1 hu) (a0P I.hok eb) dd fun h' dd' hs=>h _ ?_
   obtain⟨q,es,ep,hq,h2,h3,h4,_,h5⟩:=dd';refine a5m I (by rw[e];exact True.intro) hs ⟨q,hq⟩ ⟨hl,hd,_,(rel.put k eb rv).keeps fun c ys ec=>?_,q,es,ep,hq,h2,h3,h4,h5⟩
   rw[c9 (b8N ec e (fun z=>nomatch z))]
   exact ec
end
section
variable{X:Cx}{s:Shared}{kvs:List (Key×V)}{k:Key}{E:Value->Shared->Prop}
theorem b9I(I:Inv X pins σ H s)(e:Rd H a (.dK kvs))(h:∀t s',Inv X pins σ H s'->Q (.int kvs.length t) s'):wpAny (model X.prog X.w) A (call (.builtin "len") [.ref a]) Q E s:=by
 obtain⟨z,hd,vs,rel,dd⟩:=a1W I.hok e;refine call_len_dict hd dd (by rw[←rel.length];rw[sizeLine_eq] at z;omega) ?_
 rw[←rel.length];exact h _ _ (I.tok _)
end
variable{prog:Program}{env:Env}{pos:Pos}{X:Cx}
theorem a6t{s:Shared}{o:Option V}(I:Inv X pins σ H s)(g:a7x H a y o):s.TypeIs (.ref a) "dict":=by
 rcases g with⟨kvs,k,e,_,_⟩|⟨kvs,k,b,e,_,_,_⟩
 · obtain⟨_,_,vs,_,dd⟩:=a1W I.hok e;exact dd.typeIs
 · obtain⟨_,_,xs,_,dd⟩:=a3d I.hok e;exact dd.typeIs
theorem a6s(h:Heap)(hb:sysModules<h.objs.size):p0 P w H (h.push {cls:=.type "dict",data:=.dict #[]}) h.objs.size (.dK []):=
 ⟨Nat.zero_le _,beq_eq_false_iff_ne.mpr (Ne.symm (Nat.ne_of_lt hb)),[],.nil,Heap.DictOf.new h⟩
def b5x:TE:=fun _ H Q=>∀p,H p=none->Q (.ref p) (upd H p (.dK []))
section
theorem b0P:PE X (.Dict [] [] pos) b5x:=fun pins s σ H Q I h=>
 wpAny_Dict_empty ⟨.ref s.heap.objs.size,_,I.laid (a:=s.heap.objs.size) (o:=.dK []) (t':=s.toks) (fun _ _ q=>Heap.get?_push_of_some _ q) (ai _) (a6s s.heap I.big),rfl,h _ (I.hok.fresh (ai _))⟩
end
def a4s:List (TE×TE)->St->Hp->(List (V×V)->Hp->Prop)->Prop
 |[],_,H,Q=>Q [] H
 |(tk,tv)::r,σ,H,Q=>tk σ H fun x H1=>tv σ H1 fun y H2=>a4s r σ H2 fun ps H3=>Q ((x,y)::ps) H3
abbrev VV:List (V×V)->List (Value×Value)->Prop:=Paired fun p q=>f6 p.1 q.1/\f6 p.2 q.2
def PPs(X:Cx)(pos:Pos)(keys:List (Option Expr))(values:List Expr)(trs:List (TE×TE)):Prop:=
 ∀(pins:List (Addr×Obj)) (s:Shared) (σ:St) (H:Hp) (Q:List (V×V)->Hp->Prop),Inv X pins σ H s->a4s trs σ H Q→
  wpAny (model X.prog X.w) X.A (evalPairs (pairTrees keys values X.env pos)) (fun vs s'=>∃ps H',Inv X pins σ H' s'/\VV ps vs/\Q ps H') X.xe s
theorem b3p:PPs X pos [] [] []:=fun pins s σ H Q I h=>pairTrees_nil_walk ⟨[],H,I,.nil,h⟩
variable{trs:List (TE×TE)}
theorem b0G{k v:Expr}{ks:List (Option Expr)}{vs:List Expr}{tk tv:TE}(hk:PE X k tk)(hv:PE X v tv)(hr:PPs X pos ks vs trs):
 PPs X pos (some k::ks) (v::vs) ((tk,tv)::trs):=fun pins s σ H Q I h=>
 pairTrees_cons_walk (thn (hk pins s σ H _ I h) fun u s1 ⟨x,H1,I1,rx,q1⟩=>thn (hv pins s1 σ H1 _ I1 q1) fun w2 s2 ⟨y,H2,I2,ry,q2⟩=>
  thn (hr pins s2 σ H2 _ I2 q2) fun ws s3 ⟨ps,H3,I3,rel,q3⟩=>⟨(x,y)::ps,H3,I3,.cons ⟨rx,ry⟩ rel,q3⟩)
def W1(kvs more:List (Key×V)):List (Key×V):=more.foldl (fun acc kv=>N6 acc kv.1 kv.2) kvs
theorem KV.merge:∀{more:List (Key×V)} {rs:List (Key×Value)} {kvs:List (Key×V)} {vs:List (Key×Value)},KV more rs->KV kvs vs->KV (W1 kvs more) (merged vs rs):=by
 intro more rs kvs vs r;unfold KV at r
 induction r generalizing kvs vs with
 |nil=>intro q;exact q
 | @cons p q ps qs h t ih=>
  intro r0
  have e:KV (N6 kvs p.1 p.2) (stored vs q.1 q.2):=by
   have:=r0.put p.1 h.2
   rw[←h.1];exact this
  exact ih e
theorem U1:∀(more kvs:List (Key×V)),(W1 kvs more).length<=kvs.length+more.length
 |[],kvs=>by show kvs.length<=kvs.length+0;omega
 |p::r,kvs=>by
  have h1:=U1 r (N6 kvs p.1 p.2);have h2:=Z5 kvs p.1 p.2
  show(W1 (N6 kvs p.1 p.2) r).length<=_
  rw[length_cons];omega
theorem a3f{P:Program}{w:World}:∀{kvs:List (Key×V)} {ws:List (Value×Value)},VV (kvs.map fun kv=>(kV kv.1,kv.2)) ws->∃rs,Carries (n9 P w) ws rs/\KV kvs rs
 |[],_,r=>by rw[map_nil] at r;cases r;exact⟨[],True.intro,.nil⟩
 | p::kvs,_,r=>by
  rw[map_cons] at r
  cases r with
  | @cons a b as bs h t=>
   obtain⟨rs,c,q⟩:=a3f (P:=P) (w:=w) t;obtain⟨b1,b2⟩:=b;exact⟨(p.1,b2)::rs,⟨Z8 h.1,rfl,c⟩,.cons ⟨rfl,h.2⟩ q⟩
def b8g(trs:List (TE×TE)):TE:=fun σ H Q=>∀p,H p=none->a4s trs σ (upd H p (.dK [])) fun ps H2=>H2 p=some (.dK [])/\∃kvs:List (Key×V),ps=kvs.map (fun kv=>(kV kv.1,kv.2))/\kvs.length<=15/\Q (.ref p) (upd H2 p (.dK (W1 [] kvs)))
theorem b3A{keys:List (Option Expr)}{values:List Expr}(h:PPs X pos keys values trs)(hall:keys.all (·.isSome)=true)(hl:keys.length=values.length)(h0:keys≠[])
 (h15:keys.length<=15):PE X (.Dict keys values pos) (b8g trs):=by
 intro pins s σ H Q I q;have hn:=I.hok.fresh (ai s.heap.objs.size);have I1:=I.laid (a:=s.heap.objs.size) (o:=.dK []) (h':=s.heap.push {cls:=.type "dict",data:=.dict #[]}) (t':=s.toks) (fun _ _ q=>Heap.get?_push_of_some _ q) (ai _) (a6s s.heap I.big)
 refine wpAny_Dict_walk (knd:=n9 X.prog X.w) hall hl h0 h15 (thn (h pins _ σ _ _ I1 (q _ hn)) fun ws s2 zz=>?_)
 obtain⟨ps,H2,I2,rel,e,kvs,ep,lk,q2⟩:=zz;subst ep;obtain⟨rs,c,rk⟩:=a3f (P:=X.prog) (w:=X.w) rel;obtain⟨z,hd,vs0,r0,dd⟩:=b5i I2.hok e;cases r0;refine⟨rs,c,dd,fun h' dd' hs=>⟨.ref s.heap.objs.size,_,?_,rfl,q2⟩⟩
 have hz:(W1 [] kvs).length<=sizeLine:=by
  have h1:=U1 kvs [];rw[length_nil] at h1;rw[sizeLine_eq];omega
 have he:∃q,h'.get? s.heap.objs.size=some q:=let⟨q,_,_,hq,_⟩:=dd';⟨q,hq⟩
 exact a5m I2 (by rw[e];exact True.intro) hs he (a7p hz hd (rk.merge .nil) dd')
structure M2(X:Cx)(o:Expr)(m:Str)(apos:Pos)(e f:Expr)(cpos:Pos):Prop where
 base:attributeBase o m X.env (eval o X.env)=eval o X.env
 few:((backTo cpos (starEach [e,f] X.env)).all (fun x=>!x.1)&&(backToKw cpos (keywordEach [] X.env)).all (fun x=>x.1.isSome)
  &&decide (([e,f]:List Expr).length+([]:List Keyword).length+(if([]:List Keyword).isEmpty then 0 else 1)<30))=true
 line:(apos.endLine==cpos.line)=true
 trees:backTo cpos (starEach [e,f] X.env)=[(false,eval e X.env),(false,eval f X.env)]
def IsD(H:Hp)(a:Addr):Prop:=(∃kvs,Rd H a (.dK kvs))∨∃kvs,Rd H a (.dT kvs)
theorem b6L{s:Shared}(I:Inv X pins σ H s)(d:IsD H a):
 s.TypeIs (.ref a) "dict"/\(∀b,Value.ref a=.ref b->∃ob,s.heap.get? b=some ob/\ob.dict=none)/\(a==sysModules)=false:=by
 rcases d with⟨kvs,e⟩|⟨kvs,e⟩
 · obtain⟨_,hd,vs,_,dd⟩:=a1W I.hok e;refine⟨dd.typeIs,fun b q=>?_,hd⟩
   cases q;obtain⟨ob,_,_,h1,h2,_⟩:=dd;exact⟨ob,h1,h2.2.1⟩
 · obtain⟨_,hd,xs,_,dd⟩:=a3d I.hok e;refine⟨dd.typeIs,fun b q=>?_,hd⟩
   cases q;obtain⟨ob,_,_,h1,h2,_⟩:=dd;exact⟨ob,h1,h2.2.1⟩
section
variable{s:Shared}{d:V}{r:Value}{o:Option V}{E:Value->Shared->Prop}
theorem b7m(hu:A.units+1<cLine)(I:Inv X pins σ H s)(g:a7x H a y o)(ry:f6 y u)(rd:f6 d r)(h:∀w' s',Inv X pins σ H s'->f6 (o.getD d) w'->Q w' s'):
 wpAny (model X.prog X.w) A (call (.builtin "dict.get") [.ref a,u,r]) Q E s:=by
 rcases g with⟨kvs,k,e,ey,l⟩|⟨kvs,k,b,e,ey,eb,l⟩
 · subst ey;obtain⟨z,hd,vs,rel,dd⟩:=a1W I.hok e;refine call_meetsIn PySem.F.slot_dict_get dd.typeIs PySem.F.entry_dict_get (PySem.F.args_dict_get_3 _ _ _) (meets_dict_get_default (n9 X.prog X.w) a (Z8 ry) hd r) ⟨_,dd.mapOf,h _ _ (I.tok _) ?_⟩
   rw[l];exact(rel.val k).getD rd
 · subst ey
   cases (show u=Value.ref b from ry)
   obtain⟨z,hd,xs,rel,dd⟩:=a3d I.hok e;refine call_meetsIn PySem.F.slot_dict_get dd.typeIs PySem.F.entry_dict_get (PySem.F.args_dict_get_3 _ _ _) (meetsH_dict_get_default (tupleKind (n9 X.prog X.w)) a b hd r) ⟨tupleKind_room_in1 hu,k,xs,a0P I.hok eb,dd,h _ _ (I.tok _) ?_⟩
   rw[l];exact(rel.val k).getD rd
end
end L2
namespace Att
open PySem PySem.W PySem.Calls PyProof.Rows
variable{P:Params}{h:Heap}
theorem a2c:∀(ns:List Int) (vs:List Value),WellAll P h vs (ns.map WData.int)->IntsAre vs ns:=by
 intro ns
 induction ns with
 |nil=>
  intro vs w;rw[map_nil] at w;cases w;exact .nil
 | cons n ns ih=>
  intro vs w;rw[map_cons] at w
  cases w with
  |cons a b=>
   cases a;exact .cons _ _ (ih _ b)
variable{l:OpenLaw}{n:Nat}
theorem a8R(hn:l.most=some n){args:List WData}{vals:List Value}
 (hpre:l.row.toRowW.claim.pre args=true) (hwl:WellAll P h vals args):
 ∃a vs ns,vals=[Value.ref a]/\args=[WData.list (ns.map WData.int)]/\h.get? a=some {cls:=.type "list",data:=.seq vs.toArray}/\IntsAre vs ns/\ns.length<=n:=by
 have hsh:WShape.hasAll [] args [.list .int]=true:=(pre_splitW hpre).1
 have hc:l.pre.holds [] {args:=args}=true:=(pre_splitW hpre).2
 obtain⟨d,r,rfl,h1,h2⟩:=hasAllW_cons hsh;obtain rfl:=hasAllW_nil h2;obtain⟨xs,rfl,h3⟩:=hasW_list h1;obtain⟨ns,rfl⟩:=items_int h3
 have hlen:ns.length<=n:=by
  unfold OpenLaw.pre at hc
  have h4:(WTm.not (.lt (.lit (.int (n:Int))) (.len (.arg 0)))).holds [] {args:=[.list (ns.map .int)]}=true:=by
   have h4:=(holds_andW hc).1;rw[hn] at h4;exact h4
  have h5:=condW_of h4 (w_not (w_lt w_lit (w_len_list (w_arg rfl))));rw[aa] at h5;refine aX fun q=>?_
  have q':(n:Int)<((ns.length:Nat):Int):=by omega
  first
   |(rw[bm q'] at h5;exact absurd h5 (by decide))
   |(simp at h5;omega)
 cases hwl with
 |cons w1 w2=>
  cases w2
  cases w1 with
  |list ho hall=>exact⟨_,_,ns,rfl,rfl,ho,a2c ns _ hall,hlen⟩
theorem a8X(l:OpenLaw)(args:List WData):l.row.toRowW.claim.post args (.bool true) args=true:=
 postW_of (r:=l.row.toRowW) (X:=(true==true))
  (show WShape.has [] (.bool true) .bool=true by first|rfl|decide|simp[WShape.has,WShape.arms,WShape.armsAll])
  (show(WTm.eq .res (.lit (.bool true))).value [] {args:=args,res:=some (.bool true),after:=args}=some (.bool (true==true)) from w_eq_bool (w_res rfl) w_lit) rfl
variable{q:Program}{loose:List Str}{XP:(Str->Option Value)->Heap->Prop}{YP:World->Heap->Prop}{d:DefRec}
theorem a6D
 (hn:l.most=some n) (hdf:d.params.defaults=[])
 (call:∀(w:World) (s₀ s₁:Shared) (mg mb:Str->Option Value) (fa:Addr) (o:Obj) (pm cd doc:Value) (a:Addr) (vs:List Value) (ns:List Int),
  Ground q loose [] XP w s₀ mg mb s₁.heap->YP w s₁.heap→
  s₁.heap.get? fa=some o->o.data=.func (docDef d.name d.params d.body d.scope pm cd doc)->s₁.heap.CodeRec cd d.name->mg d.name= ~~~fa→
  s₁.heap.get? a=some {cls:=.type "list",data:=.seq vs.toArray}->IntsAre vs ns->ns.length<=n->s₁.gens= #[]→
  codeAny (model l.prog w) callerA (.call (.ref fa) ⟨[.ref a],[]⟩) (fun r s'=>r=.ok (.ret (.bool true))/\OldK s₁.heap s'.heap/\s'.os=s₁.os/\AllBare s'.gens) s₁):
 WalkO q loose XP YP l.row.toRowW d [] (fun f vs=>PySem.call f vs):=by
 intro w s₀ s₁ mg mb G Y fa o pm cd doc dV kV ho hd hcd hD hmg hg args vals as hpre hlay hrd hwl hlo;obtain rfl:dV=.none:=Dflts.none hD hdf;obtain rfl:kV=.none:=Dflts.noKw hD;obtain⟨a,vs,ns,rfl,rfl,hobj,hints,hlen⟩:=a8R hn hpre hwl;refine enter_call (codeAny_mono (call w s₀ s₁ mg mb fa o pm cd doc a vs ns G Y ho (fd_plain hd) hcd hmg hobj hints hlen hg) fun r s' hq=>?_)
 obtain⟨rfl,h2,h3,h4⟩:=hq;exact⟨.inl ⟨.bool true,.bool true,[],rfl,fun _=>rfl,.bool true,a8X l _,fun _=>⟨List.Pairwise.nil,fun _ hm=>(nomatch hm)⟩⟩,h2,h3,h4⟩
variable{f:Addr}{C:Addr}{x:Addr}{ox:Obj}{es:List DictEntry}{v:Value}{L:Addr}{m:Str->Option Value}
end Att
namespace L2
open PySem PySem.Spec PyProof.Rows
theorem a3z:∀{vs:List Value} {ns:List Int},IntsAre vs ns->i7 (ns.map V.int) vs
 |_,_,.nil=>.nil
 |_,_,.cons n t h=>.cons ⟨t,rfl⟩ (a3z h)
def b2C(H:Hp):Prop:=∀b,H b=none∨∃o xs,H b=some (.frz o (.lst xs))
variable{P:Program}{w:World}{K:PySem.W.Frag}{mg:Str->Option Value}{CX:CXT}{a:Addr}{fd:FuncData}{x:Str}{sp:Sp}{vs:List Value}{ns:List Int}
theorem b1k{mb:Str->Option Value}{k:Nat}{fa:Addr}{s₁:Shared}
 (KX:K.In s₁.heap) (hns:s₁.heap.Ns mainGlobals mg) (hb:s₁.heap.Ns builtinsNs mb) (hbb:∀x:Str,x≠"__name__"->mb x=bootBuiltins x) (hlim:s₁.heap.NoLimit) (hg:s₁.gens= #[])
 (ha:s₁.heap.get? a=some {cls:=.type "list",data:=.seq vs.toArray}) (hi:IntsAre vs ns) (hl:ns.length<=sizeLine) (hr:Room k callerA)
 (F:∀base:Heap,K.In base->base.Ns mainGlobals mg->FnOk P w K mg base CX k fa fd [x] sp) (hbind:∀(s:Shared) (u:Value),BindsTo s fd ⟨[u],[]⟩ [(x,u)])
 (hsp:∀H:Hp,b2C H->SqL K H a (ns.map V.int)->sp [.ref a] H (fun v _=>v=.bl true) fun _ _ _=>False)
 (hCX:∀H e s',CX [] H s₁ (fun _ _ _=>False) e s'->False):
 codeAny (model P w) callerA (.call (.ref fa) ⟨[.ref a],[]⟩) (fun r s'=>r=.ok (.ret (.bool true))/\OldK s₁.heap s'.heap/\s'.os=s₁.os/\AllBare s'.gens) s₁:=by
 have rv:=a3z hi;have lenV:=hi.length
 -- from an abstract heap in which nothing but the script may be tracked
 have core:∀H:Hp,b2C H->SqL K H a (ns.map V.int)->HOk P w H s₁.heap->(∀b,H b≠none->b=a)->(H a≠none->K.lookup a=none)→
  codeAny (model P w) callerA (.call (.ref fa) ⟨[.ref a],[]⟩) (fun r s'=>r=.ok (.ret (.bool true))/\OldK s₁.heap s'.heap/\s'.os=s₁.os/\AllBare s'.gens) s₁:=by
  intro H hO hS hok hA hK
  have base_of:∀{b:Addr} {o:Obj},s₁.heap.get? b=some o->H b=none->(a5a s₁.heap H).get? b=some o:=fun e n=>b1A e n
  have noA:∀{b:Addr} {o:Obj} {es:Array DictEntry} {ep:Nat},s₁.heap.get? b=some o->o.data=.dict es ep->H b=none:=fun{b o es ep} e d=>by
   cases q:H b with
   |none=>rfl
   |some u=>
    have e':b=a:=hA b (by rw[q];simp)
    subst e';rw[ha] at e;cases e
    have d':Data.seq vs.toArray _=Data.dict es ep:=d
    cases d'
  have nsK:∀{b:Addr} {m:Str->Option Value},s₁.heap.Ns b m->(a5a s₁.heap H).Ns b m:=fun{b m} ⟨o,es,ep,e,d,r⟩=>⟨o,es,ep,base_of e (noA e d),d,r⟩
  have hKb:K.In (a5a s₁.heap H):=fun b o e=>base_of (KX b o e) (by
   cases q:H b with
   |none=>rfl
   |some u=>
    have e':b=a:=hA b (by rw[q];simp)
    subst e';rw[hK (by rw[q];simp)] at e;cases e)
  have hM:Mod K mg (a5a s₁.heap H):=⟨hKb,nsK hns,⟨mb,nsK hb,hbb⟩,let⟨mc,h1,h2⟩:=hlim;⟨mc,nsK h1,h2⟩⟩
  have e0:Env0 P w K mg (a5a s₁.heap H) callerA [] s₁ H:=⟨rfl,hM,fun b o e=>b3K e,Nat.le_of_eq (a9p _ _),trivial,fun b hb=>absurd (show b∈([]:List Addr) from hb) (by simp),hok,.of_eq hg⟩
  refine codeAny_mono ((F _ hKb (nsK hns)).run callerA [] s₁ H ⟨[.ref a],[]⟩ [.ref a] [.ref a] _ _ hr e0 (hbind s₁ (.ref a)) (.cons rfl .nil) (hsp H hO hS)) fun r s' h=>?_
  cases r with
  |error e=>exact(hCX H e s' h).elim
  | ok fl=>
   cases fl with
   |next=>exact False.elim h
   |brk=>exact False.elim h
   |cont=>exact False.elim h
   | ret u=>
    obtain⟨v,H',os,bare,un,hok',r',q⟩:=h
    have q':v=.bl true:=q
    subst q';obtain rfl:u=Value.bool true:=r';refine⟨rfl,OldK.of_keep fun b o e=>?_,os,bare⟩
    cases q:H b with
    |none=>exact un.keep b o e q (by intro z;exact absurd (show b∈([]:List Addr) from z) (by simp)) (by simp)
    |some u=>
     rcases hO b with z|⟨ob,xs,z⟩
     · rw[q] at z;cases z
     · have z2:=un.frzs b ob _ z;obtain⟨e1,_⟩:=hok b _ z;obtain⟨e2,_⟩:=hok' b _ z2;rw[e] at e1;cases e1
       exact e2
 cases hk:K.lookup a with
 |some o=>
  -- the script is one of the module's own objects
  have e:=KX a o hk;rw[ha] at e;cases e;refine core (fun _=>none) (fun _=>.inl rfl) (.inr ⟨_,vs.toArray,_,hk,rfl,rfl,rfl,by rw[size_toArray,lenV];exact hl,by simpa using rv⟩) (fun b u z=>by have z':(none:Option HO)=some u:=z;cases z') (fun b z=>absurd rfl z) fun z=>absurd rfl z
 |none=>
  refine core (fun b=>if b=a then some (.frz {cls:=.type "list",data:=.seq vs.toArray} (.lst (ns.map V.int))) else none) (fun b=>?_) (.inl (.inr ⟨{cls:=.type "list",data:=.seq vs.toArray},ay rfl⟩)) (fun b u z=>?_) (fun b z=>?_) fun _=>hk
  · by_cases hb:b=a
    · exact .inr ⟨_,_,ay hb⟩
    · exact .inl (az hb)
  · by_cases hb:b=a
    · have z':=(ay hb).symm.trans z
      cases z';subst hb;exact⟨ha,by rw[aa];exact hl,vs,_,rv,ha⟩
    · have z':=(az hb).symm.trans z
      cases z'
  · by_cases hb:b=a
    · exact hb
    · exact absurd (az hb) z
abbrev KOf{K:PySem.W.Frag}{h:Heap}(_:K.In h):PySem.W.Frag:=K
variable{n:Nat}{q:Program}{loose:List Str}{XP:(Str->Option Value)->Heap->Prop}{YP:World->Heap->Prop}
theorem b2G{l:PySem.W.OpenLaw}{k:Nat}{d:DefRec}{K:Params->PySem.W.Frag}{CX:World->CXT}{sp:World->Sp}
 (hn:l.most=some n) (hn2:n<=sizeLine) (hdf:d.params.defaults=[]) (hr:Room k callerA)
 (hY:∀(w:World) (h:Heap),YP w h->(K w.params).In h)
 (F:∀(w:World) (mg:Str->Option Value) (fa:Addr) (h:Heap),(K w.params).In h->h.Ns mainGlobals mg->mg d.name= ~~~fa→
  ∃fd:FuncData,(∀(s:Shared) (u:Value),BindsTo s fd ⟨[u],[]⟩ [(x,u)])∧
   ∀base:Heap,(K w.params).In base->base.Ns mainGlobals mg->FnOk l.prog w (K w.params) mg base (CX w) k fa fd [x] (sp w))
 (hsp:∀(w:World) (H:Hp) (a:Addr) (ns:List Int),ns.length<=n->b2C H->SqL (K w.params) H a (ns.map V.int)->sp w [.ref a] H (fun v _=>v=.bl true) fun _ _ _=>False)
 (hCX:∀(w:World) (H:Hp) (s:Shared) (e:Value) (s':Shared),CX w [] H s (fun _ _ _=>False) e s'->False):
 PySem.W.WalkO q loose XP YP l.row.toRowW d [] (fun f vs=>PySem.call f vs):=by
 refine Att.a6D hn hdf fun w s₀ s₁ mg mb fa o pm cd doc a vs ns G Y ho hd hcd hmg hobj hints hlen hg=>?_
 have KX:=hY w _ Y;obtain⟨fd,hb,hF⟩:=F w mg fa _ KX G.T.g hmg;exact b1k KX G.T.g G.T.b G.T.builtins G.T.nolimit hg hobj hints (aU hlen hn2) hr hF hb (fun H hO hS=>hsp w H a ns hlen hO hS) fun H e s'=>hCX w H s₁ e s'
noncomputable def b3Y(s:Stmt)(j:Nat):Stmt:=match s with
 |.ClassDef _ _ _ body _ _ _ _ _ _ _=>body.getD j (.Pass ⟨0,0,0,0⟩)
 |_=>.Pass ⟨0,0,0,0⟩
noncomputable def T6(s:Stmt):Arguments:=match s with
 |.FunctionDef _ a _ _ _ _ _ _ _ _=>a
 |_=>{posonlyargs:=[],args:=[],vararg:=none,kwonlyargs:=[],kw_defaults:=[],kwarg:=none,defaults:=[]}
noncomputable def M0(s:Stmt):List Stmt:=match s with
 |.FunctionDef _ _ b _ _ _ _ _ _ _=>b
 |_=>[]
noncomputable def o8(s:Stmt):Scope:=match s with
 |.FunctionDef _ _ _ _ _ _ sc _ _ _=>sc
 |_=>{kind:=.function,names:=[],isGenerator:=false,isCoroutine:=false}
abbrev CX0:CXT:=fun _ _ _ _ _ _=>False
abbrev E0:XK:=fun _ _ _=>False
variable{X:Cx}
theorem b5e:a3m CX0 X E0:=fun _ _ _ _ _ _ _ h=>h.elim
structure Fun(K:PySem.W.Frag)(x qual:Str)(st:Stmt)(f:Addr)(fd:FuncData):Prop where
 ex:∃(oc:Value) (od:Option Addr) (kV doc pm:Value) (an:Option Addr) (cdv ct:Value) (osl:Array (Option Value)),
  fd=PySem.W.fnOf x qual (T6 st) (M0 st) (o8 st) .none kV doc pm an cdv ct/\K.lookup f=some ⟨oc,od,.func fd,osl⟩/\PySem.W.codeIn K cdv qual=true
 kp:PySem.W.keepIn K (.ref f)=true
variable{qual:Str}{st:Stmt}{N:List Str}{ps:List Str}{oc:Value}{od:Option Addr}{an:Option Addr}{osl:Array (Option Value)}{doc:Value}{pm:Value}{cdv:Value}{ct:Value}
section
variable{base:Heap}
theorem Fun.binds{f:Addr}(F:Fun K x qual st f fd)
 (h:∀(kV doc pm:Value) (an:Option Addr) (cdv ct:Value) (us:List Value),us.length=ps.length->bindArgs (PySem.W.fnOf x qual (T6 st) (M0 st) (o8 st) .none kV doc pm an cdv ct) ⟨us,[]⟩=pure (ps.zip us)):T7 K fd ps []:=by
 obtain⟨oc,od,kV,doc,pm,an,cdv,ct,osl,rfl,lk,hcd⟩:=F.ex;exact .all (h kV doc pm an cdv ct)
theorem b1L{f:Addr}{kV:Value}(l:K.lookup f=some ⟨oc,od,.func (PySem.W.fnOf x qual (T6 st) (M0 st) (o8 st) .none kV doc pm an cdv ct),osl⟩)
 (c:PySem.W.codeIn K cdv qual=true) (k:PySem.W.keepIn K (.ref f)=true):Fun K x qual st f (PySem.W.fnOf x qual (T6 st) (M0 st) (o8 st) .none kV doc pm an cdv ct):=⟨⟨oc,od,kV,doc,pm,an,cdv,ct,osl,rfl,l,c⟩,k⟩
end
variable{A:Around}{pos:Pos}
theorem b8S{A B:Prop}(h:B):if false=true then A else B:=by
 rw[az bv];exact h
theorem b8R{A B:Prop}(h:A):if true=true then A else B:=by
 rw[ay rfl];exact h
def c1A(H H':Hp):Prop:=∀b o,H b=some o->H' b=some o
variable{H:Hp}{H':Hp}
noncomputable def J7(cells:List (Str×Addr)):List (Str×NameKind)->List (Str×Addr)->List (Str×Addr)
 |[],acc=>acc
 |(n,k)::r,acc=>if k=NameKind.free then(match cells.lookup n with|some c=>J7 cells r ((n,c)::acc)|none=>J7 cells r acc) else J7 cells r acc
theorem U9{cells:List (Str×Addr)}{x:Str}{c:Addr}:∀{l:List (Str×NameKind)} {acc:List (Str×Addr)},(x,c)∈J7 cells l acc->(x,c)∈acc∨((x,NameKind.free)∈l/\cells.lookup x=some c)
 |[],_,h=>.inl h
 | (n, k)::r,acc,h=>by
  unfold J7 at h
  by_cases hk:k=NameKind.free
  · rw [ay hk] at h
    cases e:cells.lookup n with
    |none=>
     rw[e] at h
     rcases U9 h with q|⟨q,z⟩
     · exact .inl q
     · exact .inr ⟨aD _ q,z⟩
    |some d=>
     rw[e] at h
     rcases U9 h with q|⟨q,z⟩
     · rcases aE.mp q with q|q
       · cases q;exact .inr ⟨by rw[hk];exact bf,e⟩
       · exact .inl q
     · exact .inr ⟨aD _ q,z⟩
  · rw[az hk] at h
    rcases U9 h with q|⟨q,z⟩
    · exact .inl q
    · exact .inr ⟨aD _ q,z⟩
theorem a0w{cells:List (Str×Addr)}{p:Str×Addr}:∀{l:List (Str×NameKind)} {acc:List (Str×Addr)},p∈acc->p∈J7 cells l acc
 |[],_,h=>h
 | (n,k)::r,acc,h=>by
  unfold J7
  by_cases hk:k=NameKind.free
  · rw[ay hk]
    cases e:cells.lookup n with
    |none=>exact a0w h
    |some d=>exact a0w (aD _ h)
  · rw[az hk];exact a0w h
theorem a1l{cells:List (Str×Addr)}{x:Str}{c:Addr}(hc:cells.lookup x=some c):∀{l:List (Str×NameKind)} {acc:List (Str×Addr)},(x,NameKind.free)∈l->(x,c)∈J7 cells l acc
 | (n,k)::r,acc,h=>by
  unfold J7
  rcases aE.mp h with q|q
  · cases q;rw[ay rfl,hc];exact a0w bf
  · by_cases hk:k=NameKind.free
    · rw[ay hk]
      cases e:cells.lookup n with
      |none=>exact a1l hc q
      |some d=>exact a1l hc q
    · rw[az hk];exact a1l hc q
theorem a3s{cl:List (Str×Addr)}{c:Addr}:(∀d,(x,d)∈cl->d=c)->(x,c)∈cl->cl.lookup x=some c:=by
 induction cl with
 |nil=>intro _ h;cases h
 |cons p r ih=>
  intro ha h;obtain⟨n,d⟩:=p;rw[lookup_cons]
  by_cases e:x=n
  · subst e;rw[beq_self_eq_true];rw[ha d bf]
  · rw[show(x==n)=false from beq_eq_false_iff_ne.mpr e];refine ih (fun d' hd'=>ha d' (aD _ hd')) ?_
    rcases aE.mp h with q|q
    · cases q;exact absurd rfl e
    · exact q
variable{cells:List (Str×Addr)}{l:List (Str×NameKind)}
theorem a1j{c:Addr}(hl:(x,NameKind.free)∈l)(hc:cells.lookup x=some c):(J7 cells l []).lookup x=some c:=
 a3s (fun d hd=>by
  rcases U9 hd with q|⟨_,z⟩
  · cases q
  · rw[hc] at z;exact(ax z).symm) (a1l hc hl)
theorem O6{c:Addr}(h:(J7 cells l []).lookup x=some c):cells.lookup x=some c:=by
 rcases U9 (PySem.mem_of_lookup h) with q|⟨_,z⟩
 · cases q
 · exact z
theorem a0Q{env:Env}{f:Str×NameKind->List (Str×Addr)->Sem (ForInStep (List (Str×Addr)))}
 (hf:∀n k r,f (n,k) r=if(k==NameKind.free)=true then(cellOf env n>>=fun a=>pure (ForInStep.yield ((n,a)::r))) else pure (ForInStep.yield r)):
 ∀(l:List (Str×NameKind)) (acc:List (Str×Addr)),(∀y∈l,y.2=NameKind.free->∃c,env.cells.lookup y.1=some c)->(forIn l acc f:Sem (List (Str×Addr)))=pure (J7 env.cells l acc)
 |[],acc,_=>rfl
 | (n,k)::r,acc,h=>by
  rw[List.forIn_cons,hf];unfold J7
  by_cases hk:k=NameKind.free
  · subst hk;obtain⟨c,hc⟩:=h (n,.free) bf rfl
    have hc':env.cells.lookup n=some c:=hc
    have e1:cellOf env n=pure c:=by unfold cellOf;rw[hc']
    rw[ay (beq_self_eq_true _),ay rfl,e1,hc'];simp only[pure_bind];exact a0Q hf r _ fun y hy=>h y (aD _ hy)
  · have hb:¬(k==NameKind.free)=true:=fun z=>hk (by simpa using z)
    rw[az hb,az hk];simp only[pure_bind];exact a0Q hf r _ fun y hy=>h y (aD _ hy)
variable{scope:Scope}{env:Env}
theorem a0F(h:∀y∈scope.names,y.2=NameKind.free->∃c,env.cells.lookup y.1=some c):closureFor scope env=pure (J7 env.cells scope.names []):=by
 unfold closureFor
 dsimp only
 rw[a0Q (env:=env) (fun n k r=>by rfl) scope.names [] h]
 rfl
theorem a1N{k:NameKind}(h:(relabel scope env).names.lookup x=some k):(x,k)∈scope.names∨((x,NameKind.free)∈scope.names/\k=.cell):=by
 obtain⟨⟨n,k'⟩,hm,e⟩:=ak.mp (PySem.mem_of_lookup h)
 dsimp only at e
 split at e
 · rename_i hc;cases e
   have hk:k'=NameKind.free:=by simp only[ae,beq_iff_eq] at hc;exact hc.1.1
   exact .inr ⟨hk▸hm,rfl⟩
 · cases e;exact .inl hm
theorem a1e{env:Env}:∀{names:List (Str×NameKind)} {x:Str},names.lookup x=some .free→
 (names.map fun(n,k)=>if(k==NameKind.free&&env.scope.kind==.function&&env.kindOf n==some .cell) then(n,NameKind.cell) else(n,k)).lookup x=some .cell∨
 (names.map fun(n,k)=>if(k==NameKind.free&&env.scope.kind==.function&&env.kindOf n==some .cell) then(n,NameKind.cell) else(n,k)).lookup x=some .free
 |[],_,h=>by simp at h
 | (n,k)::r,x,h=>by
  have ih:= @a1e env r x;rw[map_cons]
  cases hx:x==n with
  |true=>
   simp only[lookup_cons,hx] at h;cases h
   by_cases hc:(NameKind.free==NameKind.free&&env.scope.kind==.function&&env.kindOf n==some .cell)=true
   · refine .inl ?_;simp only[ay hc,lookup_cons,hx]
   · refine .inr ?_;simp only[az hc,lookup_cons,hx]
  |false=>
   simp only[lookup_cons,hx] at h
   by_cases hc:(k==NameKind.free&&env.scope.kind==.function&&env.kindOf n==some .cell)=true
   · simp only[ay hc,lookup_cons,hx];exact ih h
   · simp only[az hc,lookup_cons,hx];exact ih h
structure CompScope(sc scope:Scope)(own frees:List Str):Prop where
 kind:scope.kind=.function
 nocell:∀y∈scope.names,y.2≠.cell
 locs:∀y∈scope.names,y.2=.local->scope.names.lookup y.1=some .local
 out:∀y∈scope.names,y.2=.free->sc.names.lookup y.1=some .cell
 nd:(own++frees).Nodup
 ownL:∀x∈own,scope.names.lookup x=some .local
 fr:∀x∈frees,scope.names.lookup x=some .free
def o6(X:Cx)(own frees:List Str)(scope:Scope)(C:Addr)(s₀:Shared)(H₀:Hp)(ex:List Addr):Cx:=
 { prog:=X.prog,w:=X.w,K:=X.K,mg:=X.mg,base:=X.base,A:=X.A,N:=own++frees,s₀:=s₀,H₀:=H₀,env:=compEnvC scope (J7 X.env.cells scope.names []) C X.env,
   outer:=X.stack,stack:=X.stack,ex:=ex,fn:=fun _=>false,calm:=X.calm,pn:=[],xe:=fun _ _=>False}
noncomputable def C0(own:List Str)(js:List Nat)(σ:St):St:=own.map (fun _=>none)++js.map (fun j=>(σ[j]?).join)
def Wk(σ σ':St):Prop:=σ.length=σ'.length/\∀(i:Nat) (v:V),σ[i]? =some (some v)->σ'[i]? =some (some v)
variable{σ:St}{v:V}
def a6E(X:Cx)(ifs:List Expr)(t:TT):Prop:=
 ∀(pins:List (Addr×Obj)) (s:Shared) (σ:St) (H:Hp) (Q:Bool->Hp->Prop),Inv X pins σ H s->t σ H Q→
  wpAny (model X.prog X.w) X.A (forIn ifs true fun c r=>if r=true then do let ok←isTrue c X.env (eval c X.env);pure (ForInStep.yield ok) else pure (ForInStep.yield r)) (TP X pins σ Q) X.xe s
theorem b3t:a6E X [] (fun _ H Q=>Q true H):=fun _ _ _ H _ I h=>wpAny_tests_nil ⟨H,I,h⟩
variable{c:Expr}
theorem b3s{t:TT}(h:PT X c t):a6E X [c] t:=fun pins s σ H Q I q=>wpAny_tests_one (h pins s σ H Q I q)
variable{iter:Expr}
section
variable{prog:Program}{R:Result->Shared->Prop}{s:Shared}
theorem a5n{elt target:Expr}{ifs:List Expr}{it acc:Value}(I:Nat->Shared->Prop)
 (turn:∀n s,I n s->wpAny (model prog w) A (pyNext it) (fun r s₁=>match r with
  |none=>R (.ok .next) s₁
  | some v=>wpAny (model prog w) A (letOwnedTupleGo target it v) (fun _ s₁'=>wpAny (model prog w) A (assign target env v) (fun _ s₂=>
   wpAny (model prog w) A (forIn ifs true fun c r=>if r=true then do let ok←isTrue c env (eval c env);pure (ForInStep.yield ok) else pure (ForInStep.yield r)) (fun ok s₃=>
    if ok=true then wpAny (model prog w) A (eval elt env) (fun x s₄=>
     wpAny (model prog w) A (call (.builtin "list.append") [acc,x]) (fun _ s₅=>∃m,m<n/\I m s₅) (fun _ _=>False) s₄) (fun _ _=>False) s₃
    else∃m,m<n/\I m s₃) (fun _ _=>False) s₂) (fun _ _=>False) s₁') (fun _ _=>False) s₁) (fun _ _=>False) s)
 (n:Nat) (h:I n s):codeAny (model prog w) A (.compLoop (.ListComp elt [⟨target,iter,ifs,0⟩] scope pos) 0 it acc env) R s:=by
 have no:∀{α:Type} {t:Sem α} {Q:α->Shared->Prop} {E:Value->Shared->Prop} {s:Shared},wpAny (model prog w) A t Q (fun _ _=>False) s->wpAny (model prog w) A t Q E s:=
  fun h=>wpAny_mono h (fun _ _ q=>q) fun _ _ z=>z.elim
 refine codeAny_loop rfl I (fun n s hI=>?_) n h
 show wpAny _ A ((compTurn (.ListComp elt [⟨target,iter,ifs,0⟩] scope pos) 0 it acc env).onRaise (fun x=>do noteFrame x env;theTreesLotGoes x)) _ _ s
 refine wpAny_noted ?_
 rw[compTurn_list];refine wpAny_bind (wpAny_standAt (wpAny_bind (no (wpAny_mono (turn n s hI) (fun r s₁ h₁=>?_) fun _ _ h'=>h'))))
 cases r with
 |none=>exact wpAny_pure h₁
 | some v=>
  refine wpAny_bind (no (wpAny_mono h₁ (fun _ s₁' h₁'=>?_) fun _ _ h'=>h'))
  refine wpAny_bind (no (wpAny_mono h₁' (fun _ s₂ h₂=>wpAny_bind (no (wpAny_mono h₂ (fun ok s₃ h₃=>?_) fun _ _ h'=>h'))) fun _ _ h'=>h'))
  cases ok with
  |false=>exact wpAny_pure ⟨rfl,h₃⟩
  |true=>
   exact wpAny_bind (wpAny_bind (no (wpAny_mono h₃ (fun x s₄ h₄=>wpAny_bind (no (wpAny_mono h₄ (fun _ s₅ h₅=>wpAny_pure (wpAny_pure ⟨rfl,h₅⟩)) fun _ _ h'=>h'))) fun _ _ h'=>h')))
end
variable{h:Heap}{h':Heap}
def a5H(own:List Str)(js:List Nat)(wi:TI)(g:TG)(tc:TT)(te:TE):TE:=fun σ H Q=>wi σ H fun J H1=>∀D,H1 D=none→
 ∃ W:Nat->Nat->List V->Hp->Prop,(∃m,W 0 m [] (upd H1 D (.lst [])))/\∀i m ys H2,W i m ys H2→
  (J.stop i H2/\Q (.ref D) H2)∨(J.go i H2/\∀x H3,J.yld i H2 x H3->g x (C0 own js σ) H3 fun σ4 H4=>Wk (C0 own js σ) σ4/\tc σ4 H4 fun b H5=>
   if b=true then te σ4 H5 fun y H6=>H6 D=some (.lst ys)/\ys.length<sizeLine/\∃m',m'<m/\W (i+1) m' (ys++[y]) (upd H6 D (.lst (ys++[y])))
   else∃m',m'<m/\W (i+1) m' ys H5)
variable{pins:List (Addr×Obj)}{C:Addr}{fp:List Addr}{s':Shared}{m:Str->Option Value}
section
variable{elt tg:Expr}{ifs:List Expr}{own frees:List Str}{js:List Nat}{wi:TI}{g:TG}{tc:TT}{te:TE}
theorem b4N{s:Shared}(I:Inv X pins σ H s)(S:CompScope X.env.scope scope own frees)(hC:s.heap.objs.size<=C)
 (hf:∀b∈fp,a2f X pins H b) (ho:∀b∈fp,∃o,s.heap.get? b=some o):(o6 X own frees scope C s H fp).Ok:=by
 have cellX:∀x c,(J7 X.env.cells scope.names []).lookup x=some c->X.env.cells.lookup x=some c:=fun x c e=>O6 e
 refine⟨I.ok.mod,S.kind,I.ok.glob,I.ok.blt,hC,fun x y c h1 h2=>I.ok.inj x y c (cellX x c h1) (cellX y c h2),fun x hx=>?_,fun x c h=>(bv h).elim,I.ok.hd,I.ok.frames,.inl rfl,fun b hb=>⟨?_,fun x c e=>(hf b hb).2.2.2.2.1 x c (cellX x c e)⟩,
  I.bs,aU I.ok.bsz I.sz,fun b o e hb=>?_,fun b hb hm=>?_,I.stack,I.stkFree⟩
 · have hx':(relabel scope X.env).names.lookup x=some .cell∨(relabel scope X.env).names.lookup x=some .free:=hx
   have hm:(x,NameKind.free)∈scope.names:=by
    rcases hx' with q|q
    · rcases a1N q with z|z
      · exact absurd rfl (S.nocell _ z)
      · exact z.1
    · rcases a1N q with z|z
      · exact z
      · exact z.1
   obtain⟨c,hc⟩:=I.ok.has x (.inl (S.out _ hm rfl));exact⟨c,a1j hm hc⟩
 · intro e;obtain⟨o,q⟩:=ho b hb
   have e':b=C:=e
   have:=Heap.lt_size q
   rw[e'] at this;exact absurd (aC this hC) (aR _)
 · rcases(hf b hb).2.2.2.1 with z|z
   · exact I.ok.noex b o e z
   · exact absurd (aC (aC (Heap.lt_size e) I.ok.bsz) z) (aR _)
 · rcases aE.mp (I.stkSub b hm) with z|z
   · exact(hf b hb).2.1 z
   · exact(hf b hb).2.2.1 z
theorem b2m {s:Shared} (I:Inv X pins σ H s) (S:CompScope X.env.scope scope own frees) (hj:frees.map some=js.map (X.N[·]?)) (hC:s.heap.objs.size<=C)
 (hf:∀b∈fp,a2f X pins H b) (ho:∀b∈fp,∃o,s.heap.get? b=some o) (os:s'.os=s.os) (bare:AllBare s'.gens) (k:∀b o,s.heap.get? b=some o->s'.heap.get? b=some o) (un:Un (frs X.stack) fp H H' s.heap s'.heap)
 (hn:s'.heap.Ns C m) (hCn:H' C=none) (hok:HOk X.prog X.w H' s'.heap) (hcl:∀x c,X.env.cells.lookup x=some c->H' c=none):
 Inv (o6 X own frees scope C s H fp) [] (C0 own js σ) H' s':=by
 have hlen:frees.length=js.length:=by have:=congrArg List.length hj;simpa using this
 refine⟨b4N I S hC hf ho,os,bare,un,⟨m,hn,fun i x v h1 h2 h3=>?_⟩,fun x c e=>?_,hCn,fun x c e=>hcl x c (O6 e),fun p hp=>absurd (show p∈([]:List (Addr×Obj)) from hp) (by simp),hok,?_⟩
 · have h1':(own++frees)[i]? =some x:=h1
   unfold C0 at h2
   by_cases hi:i<own.length
   · rw[av (by simpa using hi),aj] at h2
     cases q:own[i]? with
     |none=>rw[q] at h2;cases h2
     |some z=>rw[q] at h2;cases h2
   · have hi':own.length<=i:=aX hi
     rw[aq hi'] at h1'
     rw[aq (by simpa using hi'),aa,aj] at h2
     cases q:js[i-own.length]? with
     |none=>rw[q] at h2;cases h2
     | some j=>
      rw[q] at h2
      have h2':(σ[j]?).join=some v:=ax h2
      have hσ:σ[j]? =some (some v):=by
       cases z:σ[j]? with
       |none=>rw[z] at h2';cases h2'
       |some w'=>rw[z] at h2';exact congrArg some h2'
      have hX:X.N[j]? =some x:=by
       have e:=congrArg (fun l=>l[i-own.length]?) hj
       rw[aj,aj,h1',q] at e
       exact(ax e).symm
      have hm:(x,NameKind.free)∈scope.names:=PySem.mem_of_lookup (S.fr x (aG h1'))
      have ho':=S.out _ hm rfl
      obtain⟨m0,hn0,hl0⟩:=I.loc;obtain⟨u,ru,l⟩:=hl0 j x v hX hσ (.inr (.inl ho'));refine⟨u,ru,?_⟩
      rcases l with⟨q1,_⟩|⟨_,c,e,z⟩
      · have q1':X.env.scope.names.lookup x=some .local:=q1
        rw[ho'] at q1';cases q1'
      · refine .inr ⟨a1e (S.fr x (aG h1')),c,a1j hm e,?_⟩
        obtain⟨o,eo,d⟩:=z;exact⟨o,k c o eo,d⟩
 · obtain⟨v,o,eo,d⟩:=I.cell x c (O6 e);exact⟨v,o,k c o eo,d⟩
 · show(C0 own js σ).length=(own++frees).length
   unfold C0;rw[ao,aa,aa,ao,hlen]
end
variable{Q:Value->Shared->Prop}
section
def c0K:V->Option Int->Option Int->Hp->VK->Prop:=fun x lo hi H Q=>∃z,x=.str z/\z.length<=sizeLine/\Q (.str (Txt.slice z lo hi)) H
theorem b5C:SlR X c0K:=by
 intro pins s σ H x v vl vu lo hi sl Q I rx hs pl pu h;obtain⟨z,rfl,hz,q⟩:=h;obtain⟨t,rfl⟩:=rx
 have fin:∀(t':Tok) (k:Nat),EP X pins σ Q (.str (Txt.slice z lo hi) t') {s with toks:=k}:=fun t' k=>⟨.str _,H,I.tok _,⟨_,rfl⟩,q⟩
 refine⟨"str",_,PySem.F.slot_str_getitem.lookup,typeIs_str _ _ _,?_⟩
 obtain⟨o,e1,e2,e3⟩:=hs
 cases pl with
 |none=>
  cases pu with
  |none=>exact wpAny_getItem_str_slice (l:=none) (u:=none) (st:=none) ⟨o,e1,e2,e3⟩ rfl (post_val_or_str ⟨aU (Txt.slice_le z _ _) hz,fun t' k=>fin t' k⟩)
  |int j uj=>exact wpAny_getItem_str_slice (l:=none) (u:=some (j,uj)) (st:=none) ⟨o,e1,e2,e3⟩ rfl (post_val_or_str ⟨aU (Txt.slice_le z _ _) hz,fun t' k=>fin t' k⟩)
 |int i ui=>
  cases pu with
  |none=>exact wpAny_getItem_str_slice (l:=some (i,ui)) (u:=none) (st:=none) ⟨o,e1,e2,e3⟩ rfl (post_val_or_str ⟨aU (Txt.slice_le z _ _) hz,fun t' k=>fin t' k⟩)
  |int j uj=>exact wpAny_getItem_str_slice (l:=some (i,ui)) (u:=some (j,uj)) (st:=none) ⟨o,e1,e2,e3⟩ rfl (post_val_or_str ⟨aU (Txt.slice_le z _ _) hz,fun t' k=>fin t' k⟩)
theorem a3y:∀l:List (Str×Tok),i7 ((l.map (·.1)).map V.str) (strValues l)
 |[]=>.nil
 |(x,t)::r=>.cons ⟨t,rfl⟩ (a3y r)
theorem a3B:∀{xs:List Str} {us:List Value},i7 (xs.map V.str) us->∃l:List (Str×Tok),us=strValues l/\l.map (·.1)=xs
 |[],us,r=>by
  rw[map_nil] at r;cases r;exact⟨[],rfl,rfl⟩
 | x::xs,us,r=>by
  rw[map_cons] at r
  cases r with
  |cons r1 r2=>
   obtain⟨t,rfl⟩:=r1;obtain⟨l,rfl,rfl⟩:=a3B r2;exact⟨(x,t)::l,rfl,rfl⟩
def b5J:V->List V->Hp->VK->Prop:=fun x vs H Q=>∃z y,x=.str z/\vs=[.str y]/\0<y.length/\z.length+2<=sizeLine/\∀p,H p=none->Q (.ref p) (upd H p (.lst ((Txt.split z y).map V.str)))
theorem b1a:MtR X "str.split" b5J:=by
 intro pins s σ H x vs v us Q I rx rv h;obtain⟨z,y,rfl,rfl,hy0,hz,q⟩:=h;obtain⟨t,rfl⟩:=rx;obtain⟨u,rfl,tu,rfl⟩:=rv.one
 have hy:(y.length==0)=false:=by
  rw[beq_eq_false_iff_ne];omega
 have fin:∀(l:List (Str×Tok)) (k:Nat),l.map (·.1)=Txt.split z y->EP X pins σ Q (.ref s.heap.objs.size) {s with toks:=k,heap:=s.heap.push {cls:=.type "list",data:=.seq (strValues l).toArray}}:=fun l k e=>by
  refine⟨.ref s.heap.objs.size,upd H s.heap.objs.size (.lst ((Txt.split z y).map V.str)),?_,rfl,q _ (I.hok.fresh (ai _))⟩
  refine I.laid (t':=k) (fun b o e=>Heap.get?_push_of_some _ e) (ai _) ⟨?_,strValues l,0,?_,Heap.get?_push_size _ rfl⟩
  · rw[aa];exact aU (split_le z y) hz
  · rw[←e];exact a3y l
 cases h1:(decide (z.length<y.length)||decide (Builtin.Str.strKind z<Builtin.Str.strKind y))
 · cases hf:(Builtin.Str.occurrences z y 0 z.length (z.length+1)).isEmpty
   · have es:Txt.split z y=Builtin.Str.partsBetween z (Builtin.Str.occurrences z y 0 z.length (z.length+1)) y.length:=(az (ne_true_of_eq_false h1)).trans (az (ne_true_of_eq_false hf))
     refine call_meets PySem.F.slot_str_split (typeIs_str _ _ _) PySem.F.entry_str_split (PySem.F.args_str_split_2 _ _) (meets_str_split_sep z y t tu h1 hy hf (by omega) (by rw[←es];exact aU (split_le z y) hz)) ?_
     show wants _ _ _ {s with toks:=_,heap:=s.heap.push {cls:=.type "list",data:=.seq (strsFrom s.toks (Builtin.Str.partsBetween z (Builtin.Str.occurrences z y 0 z.length (z.length+1)) y.length)).toArray}}
     rw[strsFrom_eq];exact fin (numbered s.toks _) _ ((numbered_texts _ _).trans es.symm)
   · exact call_meets PySem.F.slot_str_split (typeIs_str _ _ _) PySem.F.entry_str_split (PySem.F.args_str_split_2 _ _) (meets_str_split_not_found z y t tu h1 hy hf)
      (fin [(z,t)] s.toks ((az (ne_true_of_eq_false h1)).trans (ay hf)).symm)
 · exact call_meets PySem.F.slot_str_split (typeIs_str _ _ _) PySem.F.entry_str_split (PySem.F.args_str_split_2 _ _) (meets_str_split_cannot_occur z y t tu h1)
    (fin [(z,t)] s.toks (ay h1).symm)
def b3h:V->List V->Hp->VK->Prop:=fun x vs H Q=>∃z y,x=.str z/\vs=[.str y]/\Q (.bl (Txt.startswith z y)) H
theorem a9e:MtR X "str.startswith" b3h:=by
 intro pins s σ H x vs v us Q I rx rv h;obtain⟨z,y,rfl,rfl,q⟩:=h;obtain⟨t,rfl⟩:=rx;obtain⟨u,rfl,tu,rfl⟩:=rv.one;exact call_gives PySem.F.slot_str_startswith (typeIs_str _ _ _) PySem.F.entry_str_startswith (PySem.F.args_str_startswith_2 _ _) (gives_str_startswith z y t tu) ⟨.bl _,H,I,rfl,q⟩
def b8w(K:PySem.W.Frag):V->List V->Hp->VK->Prop:=fun x vs H Q=>∃z p ts,x=.str z/\vs=[.ref p]/\SqL K H p (ts.map V.str)/\JoinOk z ts=true/\Q (.str (Txt.join z ts)) H
theorem b3N:MtR X "str.join" (b8w X.K):=by
 intro pins s σ H x vs v us Q I rx rv h;obtain⟨z,p,ts,rfl,rfl,hp,hok,q⟩:=h;obtain⟨t,rfl⟩:=rx;obtain⟨u,rfl,ru⟩:=rv.one;cases ru;obtain⟨its,r,pl,hz⟩:=I.list hp;obtain⟨l,rfl,e⟩:=a3B r;exact SC.join pl.isList e hok fun t' k=>⟨.str _,H,I.tok _,⟨_,rfl⟩,q⟩
theorem a6B:∀{bs:List Bool} {us:List Value},i7 (bs.map V.bl) us->us=bs.map Value.bool
 |[],us,r=>by
  rw[map_nil] at r;cases r;rfl
 | b::bs,us,r=>by
  rw[map_cons] at r
  cases r with
  |cons r1 r2=>
   cases r1;rw[a6B r2];rfl
theorem a8V(bs:List Bool)(p:Bool->Bool):(List.range bs.length).all (fun i=>p (bs.getD i true))=bs.all p:=by
 induction bs with
 |nil=>rfl
 |cons b r ih=>
  rw[length_cons,List.range_succ_eq_map,all_cons,all_map,all_cons,←ih];rfl
theorem a9E{s:Shared}{p:Addr}{bs:List Bool}(hc:X.calm=true)(I:Inv X pins σ H s)(hp:SqL X.K H p (bs.map V.bl)){E:Value->Shared->Prop}{f:(Nat->Bool)->Bool}
 (hq:∀s',Inv X pins σ H s'->Q (.bool (f fun i=>bs.getD i true)) s'):
 wpAny (model X.prog X.w) X.A.in1 (pyIter (.ref p)) (fun it s₂=>∃I fp wr n P St tr,it=.ref I/\Walks X.prog X.w X.A.in1 I fp wr n P St/\St 0 s₂.heap/\TruthOf X.prog X.w X.A.in1 P tr/\n=bs.length∧
  ∀h' tk,(∀b o,b∉wr->s₂.heap.get? b=some o->h'.get? b=some o)->Q (.bool (f tr)) {s₂ with heap:=h',toks:=tk}) E s:=by
 obtain⟨its,r,pl,hz⟩:=I.list hp;have e:=a6B r;subst e
 have hne:p≠s.heap.objs.size:=by
  obtain⟨o,n,e,_⟩:=pl;exact Nat.ne_of_lt (Heap.lt_size e)
 refine wpAny_pyIter_list pl.isList ⟨s.heap.objs.size,_,_,_,_,_,fun i=>bs.getD i true,rfl,Walks.list (A:=X.A.in1) (I.ok.hd hc) s.heap.objs.size p hne (bs.map Value.bool).toArray,⟨⟨_,Heap.get?_push_size _ rfl,rfl,rfl⟩,?_⟩,?_,?_,?_⟩
 · exact pl.isList.at fun o e=>Heap.get?_push_of_some _ e
 · intro i v s' Q' E' hP hQ
   have hP':(bs.map Value.bool).toArray[i]? =some v:=hP
   rw[List.getElem?_toArray,aj] at hP'
   cases q:bs[i]? with
   |none=>rw[q] at hP';cases hP'
   |some b=>
    rw[q] at hP';cases hP'
    have:bs.getD i true=b:=by rw[bA,q];rfl
    have hQ':Q' b s':=this▸hQ
    exact wpAny_truthy_bool hQ'
 · simp
 · intro h' tk k
   exact hq _ (I.kept fun b o e=>k b o (by
    have:=Nat.ne_of_lt (Heap.lt_size e)
    simpa using this) (Heap.get?_push_of_some _ e))
theorem b2r(hc:X.calm=true):C6 X (.builtin "all") (fun xs H Q=>∃(p:Addr) (bs:List Bool),xs=[.ref p]/\SqL X.K H p (bs.map V.bl)/\Q (.bl (bs.all id)) H):=by
 intro pins s σ H xs us Q I r h;obtain⟨p,bs,rfl,hp,q⟩:=h;obtain⟨u,rfl,ru⟩:=Q0 r;cases ru;refine call_all_walk (thn (a9E (f:=fun tr=>(List.range bs.length).all tr) (Q:=EP X pins σ Q) hc I hp fun s' I'=>⟨.bl (bs.all id),H,I',?_,q⟩) fun it s2 ⟨i,fp,wr,n,P,St,tr,e1,e2,e3,e4,e5,e6⟩=>⟨i,fp,wr,n,P,St,tr,e1,e2,e3,e4,?_⟩)
 · show Value.bool _=Value.bool _
   exact congrArg Value.bool (a8V bs id)
 · subst e5;exact e6
theorem a5s:C6 X (.type "int") (fun xs H Q=>∃z n,xs=[.str z]/\z.length<=640/\PySem.intText? z=some n/\Q (.int n) H):=by
 intro pins s σ H xs us Q I r h;obtain⟨z,n,rfl,hz,hn,q⟩:=h;obtain⟨u,rfl,t,rfl⟩:=Q0 r;exact PySem.W.KIN.call_text hn hz ⟨.int n,H,I.tok _,⟨_,rfl⟩,q⟩
end
section
variable{s:Shared}
theorem Inv.turnedF{t':Nat}(I:Inv X pins σ H s)(hf:∀b∈fp,a2f X pins H b)(k:∀b u,b∉fp->s.heap.get? b=some u->h'.get? b=some u):Inv X pins σ H {s with heap:=h',toks:=t'}:=by
 have nit:∀b u,H b=some u->b∉fp:=fun b u e z=>by rw[(hf b z).1] at e;cases e
 refine I.step (g':=s.gens) (d':=s.drawn) (ch:=fp) (fun b hb=>⟨(hf b hb).2.2.2.1,(hf b hb).2.1,(hf b hb).2.2.2.2.1,(hf b hb).2.2.2.2.2⟩) (fun b o _ _ hc e _=>k b o hc e) (fun b o _ _ hc e _=>⟨o.slots,k b o hc e⟩) (fun _ _ _ _ n=>n)
  (fun b o hc e=>⟨o,k b o hc e⟩) (fun _ _ e=>e) (fun _ _ _ e=>e) (fun b ps e=>⟨#[],by rw[e];simp⟩) (fun m hm=>?_) (fun b u e=>?_) I.bare
 · obtain⟨o,es,ep,ho,r⟩:=hm;exact⟨o,es,ep,k _ o (fun z=>(hf _ z).2.1 rfl) ho,r⟩
 · refine(I.hok b u e).stay (fun c v hc q=>k c v ?_ q) (fun _ q=>q) fun _ _ q=>q
   rcases hc with z|z
   · rw[z];exact nit b u e
   · exact nit c _ z
theorem Inv.turnedN{t':Nat}{T:Addr}{o:HO}(I:Inv X pins σ H s)(hf:∀b∈fp,a2f X pins H b)(k:∀b u,b∉fp->s.heap.get? b=some u->h'.get? b=some u)(hT:s.heap.objs.size<=T)(new:p0 X.prog X.w (upd H T o) h' T o):
 Inv X pins σ (upd H T o) {s with heap:=h',toks:=t'}:=by
 have hn:H T=none:=I.hok.fresh hT
 have nit:∀b u,H b=some u->b∉fp:=fun b u e z=>by rw[(hf b z).1] at e;cases e
 have ne:∀b u,s.heap.get? b=some u->b≠T:=fun b u e=>Nat.ne_of_lt (aC (Heap.lt_size e) hT)
 have up:∀b u,H b=some u->upd H T o b=some u:=fun b u e=>by rw[c9 (o4 e hn)];exact e
 refine I.step (g':=s.gens) (d':=s.drawn) (ch:=fp) (fun b hb=>⟨(hf b hb).2.2.2.1,(hf b hb).2.1,(hf b hb).2.2.2.2.1,(hf b hb).2.2.2.2.2⟩) (fun b u _ _ hc e _=>k b u hc e) (fun b u _ _ hc e _=>⟨u.slots,k b u hc e⟩) (fun b u _ e n=>by rw[c9 (ne b u e)];exact n)
  (fun b u hc e=>⟨u,k b u hc e⟩) (fun b xs e=>up b _ e) (fun b u xs e=>up b _ e) (fun b ps e=>⟨#[],by rw[up b _ e];simp⟩) (fun m hm=>?_) (fun b u e=>?_) I.bare
 · obtain⟨u,es,ep,ho,r⟩:=hm;exact⟨u,es,ep,k _ u (fun z=>(hf _ z).2.1 rfl) ho,r⟩
 · by_cases hb:b=T
   · subst hb;rw[b8] at e;cases e;exact new
   · rw[c9 hb] at e;refine(I.hok b u e).stay (fun c v hc q=>k c v ?_ q) (fun c q=>up c _ q) fun c xs q=>up c _ q
     rcases hc with z|z
     · rw[z];exact nit b u e
     · exact nit c _ z
end
noncomputable def Its(x:Str):It:=⟨fun i _=>i<x.cps.size,fun i H v H'=>H'=H/\∃c,x.cps[i]? =some c/\v=.str ⟨#[c]⟩,fun i _=>i=x.cps.size⟩
variable{tg:Expr}
theorem a5E{K:PySem.W.Frag}{ty:String}(x:Str)(t:Tok)(it:Addr)(hty:["enumerate","zip","dict_itemiterator","dict_reverseitemiterator","odict_iterator","itertools.zip_longest","itertools.pairwise"].contains ty=false)
 (W:∀A:Around,A.handled=none->Walks P w A it [it] [it] x.cps.size (SignAt x) (fun i h=>h.IsStrIter it ty x t i))
 (Sf:∀(A:Around) (i:Nat) (s:Shared) (Q:Value->Shared->Prop) (E:Value->Shared->Prop),s.heap.IsStrIter it ty x t i->Q (.ref it) s->wpAny (model P w) A (pyIter (.ref it)) Q E s):Turn P w K tg (Its x) [it] it (fun i h=>h.IsStrIter it ty x t i) where
 mem:=by simp
 obj:=fun i h st b hb=>by
  have e:b=it:=by simpa using hb
  subst e;obtain⟨o,e,c,d⟩:=st;exact⟨o,e,fun v z=>by rw[d] at z;cases z⟩
 keep:=fun i h h' st k=>let⟨o,e,r⟩:=st;⟨o,k it (by simp) o e,r⟩
 item:=by
  intro X hP hw hK hc i pins s σ H E I hf st hg;subst hP hw hK;refine(W X.A (I.ok.hd hc)).item i s _ _ hg st fun v h' tk hv st' kk=>?_
  obtain⟨c,u,hcx,rfl⟩:=hv
  have I1:Inv X pins σ H {s with heap:=h',toks:=tk}:=I.turnedF hf fun b o hb e=>kk b o hb e
  obtain⟨o,e,hcl,d⟩:=id st';exact⟨_,rfl,a6m (s:={s with heap:=h',toks:=tk}) e hcl d hty ⟨.str ⟨#[c]⟩,H,I1,⟨u,rfl⟩,⟨rfl,c,hcx,rfl⟩,st',fun b hb=>(hf b hb).1⟩⟩
 done:=by
  intro X hP hw hK hc i pins s σ H E I hf st hg;subst hP hw hK
  have hg':i=x.cps.size:=hg
  subst hg';exact(W X.A (I.ok.hd hc)).done s _ _ st fun h' tk k=>⟨rfl,I.turnedF (t':=tk) hf fun b o hb e=>k b o hb e⟩
 self:=fun A i s Q E st h=>Sf A i s Q E st h
variable{tb:TS}
section
def c0Z(tl:TE):TI:=fun σ H R=>tl σ H fun x H1=>∃z,x=.str z/\R (Its z) H1
theorem b5Z{l:Expr}{tl:TE}(hl:PE X l tl):PI X tg l (c0Z tl):=by
 intro pins s σ H R I h;refine thn (hl pins s σ H _ I h) fun v s1 zz=>?_
 obtain⟨x,H1,I1,r1,z,e,q⟩:=zz;subst e;obtain⟨t,rfl⟩:=r1
 have fp:∀b∈[s1.heap.objs.size],a2f X pins H1 b:=fun b hb=>by
  have e:b=s1.heap.objs.size:=by simpa using hb
  subst e;exact I1.fpOk (ai _) (I1.hok.fresh (ai _))
 cases ha:z.cps.all (· <128)
 · exact wpAny_pyIter_wide ha ⟨s1.heap.objs.size,[s1.heap.objs.size],_,_,H1,rfl,I1.kept (t':=s1.toks) fun b o e=>Heap.get?_push_of_some _ e,a5E (ty:="str_iterator") z t _ (by decide) (fun A hA=>Walks.strWide hA _ z t) (fun A i s Q E st h=>wpAny_pyIter_striter_wide st h),
    ⟨_,Heap.get?_push_size _ rfl,rfl,rfl⟩,fp,q⟩
 · exact wpAny_pyIter_ascii ha ⟨s1.heap.objs.size,[s1.heap.objs.size],_,_,H1,rfl,I1.kept (t':=s1.toks) fun b o e=>Heap.get?_push_of_some _ e,a5E (ty:="str_ascii_iterator") z t _ (by decide) (fun A hA=>Walks.strAscii hA _ z t) (fun A i s Q E st h=>wpAny_pyIter_striter_ascii st h),
    ⟨_,Heap.get?_push_size _ rfl,rfl,rfl⟩,fp,q⟩
end
def Ite(K:PySem.W.Frag)(l:Addr):It:=⟨fun i H=>∃xs x,SqL K H l xs/\xs[i]? =some x,fun i H v H'=>∃T x,H T=none/\v=.ref T/\(∀xs,SqL K H l xs->xs[i]? =some x)/\H'=upd H T (.tup [.int i,x]),fun i H=>∃xs,SqL K H l xs/\xs.length<=i⟩
variable{elts:List Expr}
theorem a8I{k:Nat}(e it l:Addr)(hei:e≠it):
 Turn P w K (.Tuple elts k pos) (Ite K l) [e,it] e (fun i h=>(∃old,IsEnum h e it i old)/\h.IsListIter it l i) where
 mem:=by simp
 obj :=fun i h st b hb=>by
  obtain⟨⟨old,he⟩,o,e1,c,d⟩:=st
  rcases aE.mp hb with z|z
  · subst z
    exact⟨_,he,fun v z=>by
     have z':Data.fields _=Data.cell v:=z
     cases z'⟩
  · have z':b=it:=by simpa using z
    subst z';exact⟨o,e1,fun v z=>by rw[d] at z;cases z⟩
 keep:=fun i h h' st k=>by
  obtain⟨⟨old,he⟩,hit⟩:=st;exact⟨⟨old,k e (by simp) _ he⟩,hit.at fun o x=>k it (by simp) o x⟩
 item:=by
  intro X hP hw hK hc i pins s σ H E I hf st hg;subst hP hw hK;obtain⟨⟨old,he⟩,hit⟩:=st;obtain⟨xs,x,hq,hx⟩:=hg;obtain⟨its,rv,p,hz⟩:=I.list hq;obtain⟨u,hu,ru⟩:=rv.get hx
  have helt:e<s.heap.objs.size:=Heap.lt_size he
  refine wpAny_pyNext_enum_item he hit p.isList (x:=u) (by simpa using hu) hei fun h' ho hit' hT hsz hk=>?_
  refine⟨_,rfl,wpAny_letOwnedTupleGo_enum ho fun h2 he2 hs2=>?_⟩
  have kk:∀b o,b∉[e,it]->s.heap.get? b=some o->h2.get? b=some o:=fun b o hb q=>by
   have h1:b≠e:=fun z=>hb (by simp[z])
   have h2':b≠it:=fun z=>hb (by simp[z])
   exact(hs2.2 b h1).trans (hk b o h1 h2' q)
  have hT2:h2.get? s.heap.objs.size=some {cls:=.type "tuple",data:=.seq #[.int i s.toks,u]}:=(hs2.2 _ (Nat.ne_of_gt helt)).trans hT
  have I1:Inv X pins σ (upd H s.heap.objs.size (.tup [.int i,x])) {s with heap:=h2,toks:=s.toks+1}:=
   I.turnedN (fp:=[e,it]) hf kk (ai _) ⟨by show 2<=sizeLine;decide,[.int i s.toks,u],.cons ⟨_,rfl⟩ (.cons ru .nil),_,hT2,rfl,rfl,_,rfl⟩
  refine⟨.ref s.heap.objs.size,_,I1,rfl,⟨s.heap.objs.size,x,I.hok.fresh (ai _),rfl,fun ys hy=>by rw[I.list_inj hy hq];exact hx,rfl⟩,⟨⟨_,by simpa using he2⟩,hit'.at fun o x=>(hs2.2 it (Ne.symm hei)).trans x⟩,fun b hb=>?_⟩
  have hbs:b<s.heap.objs.size:=by
   rcases aE.mp hb with z|z
   · rw[z];exact helt
   · have z':b=it:=by simpa using z
     rw[z'];obtain⟨o,e1,_⟩:=hit;exact Heap.lt_size e1
  rw[c9 (Nat.ne_of_lt hbs)];exact(hf b hb).1
 done:=by
  intro X hP hw hK hc i pins s σ H E I hf st hg;subst hP hw hK;obtain⟨⟨old,he⟩,hit⟩:=st;obtain⟨xs,hq,hx⟩:=hg;obtain⟨its,rv,p,hz⟩:=I.list hq;have hl:=rv.length;exact wpAny_pyNext_enum_end (I.ok.hd hc) he hit p.isList (by simp;omega) fun h' eb=>⟨rfl,I.turnedF (t':=s.toks) hf fun b o hb q=>eb b o (fun z=>hb (by simp[z])) q⟩
 self:=fun A i s Q E st h=>by
  obtain⟨⟨old,he⟩,_⟩:=st;exact wpAny_pyIter_enum he h
variable{ta:TA}{p:Pos}
section
variable{k:Nat}{tpos:Pos}
def b8Y(K:PySem.W.Frag)(ta:TA):TI:=fun σ H R=>ta σ H fun vs H1=>∃l xs,vs=[.ref l]/\SqL K H1 l xs/\R (Ite K l) H1
theorem b3v{a:Expr}(hg:Gl X "enumerate")(hm:X.mg "enumerate"=none)(ha:PA X [a] ta)(hs:starEach [a] X.env=[(false,eval a X.env)]:=by rfl):
 PI X (.Tuple elts k tpos) (.Call (.Name "enumerate" p) [a] [] pos) (b8Y X.K ta):=by
 intro pins s σ H R I h;refine Call_ (W4 I hg hm boot_enumerate (PyProof.Rows.callWith_type1 (thn (ha pos pins s σ H _ I h) fun us s1 zz=>?_) hs rfl))
 obtain⟨vs,H1,I1,r1,q1⟩:=zz;obtain⟨l,xs,e,hq,q⟩:=q1;subst e;obtain⟨u,rfl,ru⟩:=Q0 r1;cases ru;obtain⟨its,rv,pl,hz⟩:=I1.list hq;refine call_enumerate_list pl.isList fun h' he hit hsz hk=>?_
 have I2:Inv X pins σ H1 {s1 with heap:=h'}:=I1.kept (t':=s1.toks) hk
 refine wpAny_pyIter_enum he ⟨s1.heap.objs.size+1,[s1.heap.objs.size+1,s1.heap.objs.size],_,_,H1,rfl,I2,a8I (s1.heap.objs.size+1) s1.heap.objs.size l (Nat.ne_of_gt (aV _)),⟨⟨_,he⟩,hit⟩,fun b hb=>?_,q⟩
 have hb':s1.heap.objs.size<=b:=by
  rcases aE.mp hb with z|z
  · rw[z];exact Nat.le_succ _
  · have z':b=s1.heap.objs.size:=by simpa using z
    rw[z'];exact ai _
 exact I1.fpOk hb' (I1.hok.fresh hb')
end
section
def c0Q(K:PySem.W.Frag):List V->Hp->VK->Prop:=fun xs H Q=>∃x T t b,xs=[x,.ty T]/\TyOf K H x t/\PySem.W.kitOne K t (.type T)=some b/\Q (.bl b) H
theorem b2q:C6 X (.builtin "isinstance") (c0Q X.K):=by
 intro pins s σ H xs us Q I r h;obtain⟨x,T,t,b,rfl,ty,e,q⟩:=h;obtain⟨u1,u2,rfl,ru1,ru2⟩:=a3A r;cases ru2;exact a9m I ru1 ty e fun tk=>⟨.bl b,H,I.tok _,rfl,q⟩
end
def b7X:TT:=fun _ H Q=>Q true H
theorem b5X:a6E X [] b7X:=b3t
noncomputable def b7p(sc scope:Scope)(own frees:List Str):Bool:=
 decide (scope.kind=.function)&&scope.names.all (fun y=>decide (y.2≠.cell))&&scope.names.all (fun y=>decide (y.2=.local->scope.names.lookup y.1=some .local))&&
 scope.names.all (fun y=>decide (y.2=.free->sc.names.lookup y.1=some .cell))&&decide ((own++frees).Nodup)&&own.all (fun x=>decide (scope.names.lookup x=some .local))&&frees.all (fun x=>decide (scope.names.lookup x=some .free))
variable{sc:Scope}
theorem b9J{own frees:List Str}(h:b7p sc scope own frees=true):CompScope sc scope own frees:=by
 unfold b7p at h;simp only[ae,decide_eq_true_eq,bu] at h;obtain⟨⟨⟨⟨⟨⟨a,b⟩,c⟩,d⟩,e⟩,f⟩,g⟩:=h;exact⟨a,b,c,d,e,f,g⟩
variable{pos':Pos}
section
variable{elt:Expr}{ifs:List Expr}{own frees:List Str}{js:List Nat}{wi:TI}{g:TG}{tc:TT}{te:TE}
theorem a4g{s:Shared}{Q:VK}{RR:Value->Addr->Result->Shared->Prop}(hcalm:X.calm=true)(hi:PI X tg iter wi)(S:CompScope X.env.scope scope own frees)(hj:frees.map some=js.map (X.N[·]?))
 (hg:∀C s₀ H₀ ex,PG (o6 X own frees scope C s₀ H₀ ex) tg g) (hc:∀C s₀ H₀ ex,a6E (o6 X own frees scope C s₀ H₀ ex) ifs tc) (he:∀C s₀ H₀ ex,PE (o6 X own frees scope C s₀ H₀ ex) elt te)
 (I:Inv X pins σ H s) (h:a5H own js wi g tc te σ H Q)
 (fin:∀D C s5 H4 m5,Inv X pins σ H4 s5->s5.heap.Ns C m5->H4 C=none->X.s₀.heap.objs.size<=C->C≠X.env.locals->(∀x c,X.env.cells.lookup x=some c->c≠C)->(∀p∈X.pn++pins,p.1≠C)->Q (.ref D) H4->RR (.ref D) C (.ok .next) s5):
 wpAny (model X.prog X.w) X.A (eval iter X.env) (fun v s1=>wpAny (model X.prog X.w) X.A (pyIter v) (fun it s2=>wpAny (model X.prog X.w) X.A (newList []) (fun acc s3=>
  wpAny (model X.prog X.w) X.A (newFunctionEnv scope X.env.globals (J7 X.env.cells scope.names []) [] X.env.qual none .none (some X.env)) (fun cenv s4=>
   codeAny (model X.prog X.w) X.A (.compStart (.ListComp elt [⟨tg,iter,ifs,0⟩] scope pos) 0 it acc {cenv with scope:=relabel scope X.env}) (RR acc cenv.locals) s4) X.xe s3) X.xe s2) X.xe s1) X.xe s:=by
 refine thn (hi pins s σ H _ I h) fun v s1 h1=>thn h1 fun itv s2 h2=>?_
 obtain⟨it,fp,tn,J,H2,e,I2,T,st2,f2,R2⟩:=h2;subst e
 have hD:H2 s2.heap.objs.size=none:=I2.hok.fresh (ai _)
 obtain⟨W,⟨m0,w0⟩,turn⟩:=R2 s2.heap.objs.size hD
 have hcells:∀x c,X.env.cells.lookup x=some c->c<s2.heap.objs.size:=fun x c e=>by obtain⟨v,z⟩:=I2.cell x c e;exact z.lt
 refine wpAny_newObj_type (wpAny_newFunctionEnv S.nocell (by intro y hy;simp at hy) (fun h₁ hns₁ hsb₁=>?_) S.kind)
 dsimp only at hns₁ hsb₁⊢
 generalize hHH:s2.heap.push {cls:=.type "list",dict:=none,data:=.seq ([]:List Value).toArray}=HH at hns₁ hsb₁⊢
 have hC:HH.objs.size=s2.heap.objs.size+1:=by rw[←hHH,Heap.size_push]
 have hCle:s2.heap.objs.size<=HH.objs.size:=by rw[hC];exact Nat.le_succ _
 have hDC:s2.heap.objs.size≠HH.objs.size:=by rw[hC];exact Nat.ne_of_lt (aV _)
 have neC:∀b,b<s2.heap.objs.size->b≠HH.objs.size:=fun b hb=>by rw[hC];exact Nat.ne_of_lt (Nat.lt_succ_of_lt hb)
 have old:∀b o,s2.heap.get? b=some o->h₁.get? b=some o:=fun b o e=>hsb₁.extBut b o (neC b (Heap.lt_size e)) (Heap.get?_push_of_some _ (hHH▸Heap.get?_push_of_some _ e))
 have accAt:h₁.get? s2.heap.objs.size=some {cls:=.type "list",dict:=none,data:=.seq ([]:List Value).toArray}:=hsb₁.extBut _ _ hDC (Heap.get?_push_of_some _ (hHH▸Heap.get?_push_size _ rfl))
 have hfo:∀b∈fp,∃o,s2.heap.get? b=some o:=fun b hb=>let⟨o,e,_⟩:=T.obj _ _ st2 b hb;⟨o,e⟩
 have hnD:∀b,b<s2.heap.objs.size->upd H2 s2.heap.objs.size (.lst []) b=H2 b:=fun b hb=>c9 (Nat.ne_of_lt hb)
 have hok1:HOk X.prog X.w (upd H2 s2.heap.objs.size (.lst [])) h₁:=I2.hok.laid old (ai _) ⟨Nat.zero_le _,[],0,.nil,accAt⟩
 have I3:∀s3:Shared,s3={s2 with heap:=h₁,toks:=s2.toks+([]:List (Str×Value)).length}->Inv (o6 X own frees scope HH.objs.size s2 H2 fp) [] (C0 own js σ) (upd H2 s2.heap.objs.size (.lst [])) s3:=by
  rintro s3 rfl;refine b2m I2 S hj hCle f2 hfo rfl I2.bare old (Un.laid old (ai _) hD) hns₁ ?_ hok1 (fun x c e=>?_)
  · rw[c9 (Ne.symm hDC)];exact I2.hok.fresh hCle
  · rw[hnD c (hcells x c e)];exact I2.freeC x c e
 -- what stays true of the iterator's objects
 have stat:∀{H':Hp},(∀b∈fp,H' b=none)->∀b∈fp,a2f (o6 X own frees scope HH.objs.size s2 H2 fp) [] H' b:=fun{H'} hn b hb=>by
  obtain⟨o,q⟩:=hfo b hb;refine⟨hn b hb,neC b (Heap.lt_size q),fun hm=>?_,.inl hb,fun x c e=>(f2 b hb).2.2.2.2.1 x c (O6 e),fun p hp=>absurd (show p∈([]:List (Addr×Obj)) from hp) (by simp)⟩
  rcases aE.mp (I2.stkSub b hm) with z|z
  · exact(f2 b hb).2.1 z
  · exact(f2 b hb).2.2.1 z
 have loop:∀s3:Shared,s3={s2 with heap:=h₁,toks:=s2.toks+([]:List (Str×Value)).length}→
  codeAny (model X.prog X.w) X.A (.compLoop (.ListComp elt [⟨tg,iter,ifs,0⟩] scope pos) 0 (.ref it) (.ref s2.heap.objs.size) (compEnvC scope (J7 X.env.cells scope.names []) HH.objs.size X.env))
   (RR (.ref s2.heap.objs.size) HH.objs.size) s3:=by
  intro s3 hs3
  refine a5n (fun n s'=>∃i ys H',Inv (o6 X own frees scope HH.objs.size s2 H2 fp) [] (C0 own js σ) H' s'/\tn i s'.heap/\(∀b∈fp,H' b=none)/\W i n ys H') ?_ m0
   ⟨0,[],_,I3 s3 hs3,T.keep _ _ _ st2 (fun b hb o e=>by rw[hs3];exact old b o e),fun b hb=>by obtain⟨o,q⟩:=hfo b hb;rw[hnD b (Heap.lt_size q)];exact(f2 b hb).1,w0⟩
  rintro n s4 ⟨i,ys,H4,I4,st4,fr4,w4⟩
  rcases turn i n ys H4 w4 with⟨stop,qn⟩|⟨go,step⟩
  · refine thn (T.done (o6 X own frees scope HH.objs.size s2 H2 fp) rfl rfl rfl hcalm i [] s4 (C0 own js σ) H4 _ I4 (stat fr4) st4 stop) fun r s5 zz=>?_
    obtain⟨hr,I5⟩:=zz;subst hr;obtain⟨m5,hn5,_⟩:=I5.loc
    have ub:Un (frs X.stack) fp H2 H4 s2.heap s5.heap:=I5.base
    refine fin _ _ s5 H4 m5 (I2.call' (ch:=fp) I5.os ub I5.hok I5.bare fun b hb=>⟨(f2 b hb).2.2.2.1,(f2 b hb).2.1,(f2 b hb).2.2.2.2.1,(f2 b hb).2.2.2.2.2⟩) hn5 I5.free (aU I2.sz hCle) ?_ ?_ ?_ qn
    · exact Ne.symm (neC _ I2.lt)
    · exact fun x c e=>neC c (hcells x c e)
    · exact fun p hp=>neC _ (Heap.lt_size (I2.pin p hp).1)
  · refine thn (T.item (o6 X own frees scope HH.objs.size s2 H2 fp) rfl rfl rfl hcalm i [] s4 (C0 own js σ) H4 _ I4 (stat fr4) st4 go) fun r s5 zz=>?_
    obtain⟨u,hr,h5⟩:=zz;subst hr;refine thn h5 fun _ s6 zz=>?_
    obtain⟨x,H6,I6,r6,y6,st6,fr6⟩:=zz
    have I6':=I6.pinned (stat fr6) (T.obj _ _ st6)
    refine thn (hg _ _ _ _ _ s6 _ H6 x u _ I6' r6 (step x H6 y6)) fun _ s7 zz=>?_
    obtain⟨σ7,H7,I7,wk7,q7⟩:=zz;refine thn (hc _ _ _ _ _ s7 σ7 H7 _ I7 q7) fun b s8 zz=>?_
    obtain⟨H8,I8,q8⟩:=zz
    have again:∀{s9:Shared} {H9:Hp} {zs:List V},Inv (o6 X own frees scope HH.objs.size s2 H2 fp) ([]++a2L fp s6.heap) σ7 H9 s9->(∃m',m'<n/\W (i+1) m' zs H9)→
     ∃m,m<n/\∃i ys H',Inv (o6 X own frees scope HH.objs.size s2 H2 fp) [] (C0 own js σ) H' s9/\tn i s9.heap/\(∀b∈fp,H' b=none)/\W i m ys H':=fun{s9 H9 zs} I9 ⟨m',hm,w9⟩=>by
     refine⟨m',hm,i+1,zs,H9,(I9.weak wk7.1 wk7.2).unpinned,T.keep _ _ _ st6 fun b hb o e=>(I9.pin (b,o) (mem_append_right _ (mem_append_right _ (W3 hb e)))).1,fun b hb=>?_,w9⟩
     obtain⟨o,e,d⟩:=T.obj _ _ st6 b hb;exact(I9.pin (b,o) (mem_append_right _ (mem_append_right _ (W3 hb e)))).2.1
    cases b with
    |false=>
     rw[az bv] at q8⊢;exact again I8 q8
    | true=>
     rw[ay rfl] at q8⊢;refine thn (he _ _ _ _ _ s8 σ7 H8 _ I8 q8) fun y s9 zz=>?_
     obtain⟨v9,H9,I9,r9,hD9,hz9,q9⟩:=zz
     refine thn (a3O (X:=o6 X own frees scope HH.objs.size s2 H2 fp) _ s9 σ7 H9 (.ref s2.heap.objs.size) [v9] (.ref s2.heap.objs.size) [y] (fun _ H'=>∃m',m'<n/\W (i+1) m' (ys++[v9]) H') I9 rfl (.cons r9 .nil)
      ⟨_,ys,v9,rfl,rfl,hD9,hz9,q9⟩) fun _ s10 ⟨_,H10,I10,_,q10⟩=>?_
     exact again I10 q10
 exact codeAny_compStart_list (loop _ rfl) (T.self _ 0 _ _ _ (T.keep _ _ _ st2 fun b hb o e=>old b o e) (loop _ rfl))
theorem a2M(hcalm:X.calm=true)(hi:PI X tg iter wi)(S:CompScope X.env.scope scope own frees)(hj:frees.map some=js.map (X.N[·]?))
 (hg:∀C s₀ H₀ ex,PG (o6 X own frees scope C s₀ H₀ ex) tg g) (hc:∀C s₀ H₀ ex,a6E (o6 X own frees scope C s₀ H₀ ex) ifs tc) (he:∀C s₀ H₀ ex,PE (o6 X own frees scope C s₀ H₀ ex) elt te)
 (hs:∀x,foldedSetIterable iter X.env x=pure x):PE X (.ListComp elt [⟨tg,iter,ifs,0⟩] scope pos) (a5H own js wi g tc te):=by
 intro pins s σ H Q I h;rw[eval_ListComp]
 have hcl:closureFor scope X.env=pure (J7 X.env.cells scope.names []):=a0F fun y hy e=>I.ok.has y.1 (.inl (S.out y hy e))
 refine wpAny_comprehension_free (use:=none) rfl hs hcl S.kind S.locs (a4g hcalm hi S hj hg hc he I h fun D C s5 H4 m5 I5 hn5 c1 c2 c3 c4 c5 q=>?_)
 exact⟨m5,hn5,fun h' hs'=>⟨.ref D,H4,I5.turned (t':=s5.toks) (fun b o hb e=>(hs'.2 b hb).trans e) c1 (Ne.symm (Ne.symm c3)) (.inr c2) c4 c5,rfl,q⟩⟩
theorem a7P{i:Nat}{spos:Pos}(hcalm:X.calm=true)(hi:PI X tg iter wi)(S:CompScope X.env.scope scope own frees)(hj:frees.map some=js.map (X.N[·]?))
 (hg:∀C s₀ H₀ ex,PG (o6 X own frees scope C s₀ H₀ ex) tg g) (hc:∀C s₀ H₀ ex,a6E (o6 X own frees scope C s₀ H₀ ex) ifs tc) (he:∀C s₀ H₀ ex,PE (o6 X own frees scope C s₀ H₀ ex) elt te)
 (hs:∀x,foldedSetIterable iter X.env x=pure x) (hN:X.N.Nodup) (hix:X.N[i]? =some x) (hx:Loc X.env.scope x) (hf:X.fn x=true∨X.env.scope.names.lookup x=some .local):
 PS X (.Assign [.Name x pos'] (.ListComp elt [⟨tg,iter,ifs,0⟩] scope pos) spos) (b5z (a5H own js wi g tc te) (b1K i)):=by
 obtain⟨b,hb⟩:∃b,swapsWith (.ListComp elt [⟨tg,iter,ifs,0⟩] scope pos) (some (.Name x pos')) spos.line X.env=pure b:=⟨_,rfl⟩
 cases b with
 |false=>exact b0D hN hix hx (a2M hcalm hi S hj hg hc he hs) hb hf
 | true=>
  intro pins s σ H Dn I h;rw[exec_Assign_Name_used _ _ _ _ hb]
  have hcl:closureFor scope X.env=pure (J7 X.env.cells scope.names []):=a0F fun y hy e=>I.ok.has y.1 (.inl (S.out y hy e))
  refine wpAny_bind (wpAny_standAt (wpAny_bind ?_))
  show wpAny _ X.A (do let _←comprehension (.ListComp elt [⟨tg,iter,ifs,0⟩] scope pos) scope X.env _ (newList []) false (eval iter X.env) (some (assign (.Name x pos') X.env))) _ _ s
  refine wpAny_bind (wpAny_mono (wpAny_comprehension_free (use:=some (assign (.Name x pos') X.env)) (Q:=fun _ s'=>SP X pins Dn .next s') rfl hs hcl S.kind S.locs
   (a4g hcalm hi S hj hg hc he I h fun D C s5 H4 m5 I5 hn5 c1 c2 c3 c4 c5 q=>?_)) (fun _ s' hq=>wpAny_pure (wpAny_pure hq)) fun _ _ e=>e)
  show wpAny _ X.A (assign (.Name x pos') X.env (.ref D)) _ _ s5
  refine wpAny_assign_Name (a3C (v:=.ref D) I5 hN hix hx rfl (fun s6 I6 zz=>?_) hf)
  obtain⟨a,sb,ea⟩:=zz
  have hCa:C≠a:=fun z=>by
   rcases ea with y|y
   · exact c3 (z.trans y)
   · exact c4 x a y z.symm
  exact⟨m5,hn5.sameBut sb hCa,fun h' hs'=>⟨_,H4,I6.turned (t':=s6.toks) (fun b o hb e=>(hs'.2 b hb).trans e) c1 c3 (.inr c2) c4 c5,q⟩⟩
end
def Itz(K:PySem.W.Frag)(l1 l2:Addr):It:=⟨fun i H=>∃xs ys x y,SqL K H l1 xs/\SqL K H l2 ys/\xs[i]? =some x/\ys[i]? =some y,
 fun i H v H'=>∃T x y,H T=none/\v=.ref T/\(∀xs,SqL K H l1 xs->xs[i]? =some x)/\(∀ys,SqL K H l2 ys->ys[i]? =some y)/\H'=upd H T (.tup [x,y]),
 fun i H=>∃xs ys,SqL K H l1 xs/\SqL K H l2 ys/\(xs.length<=i∨ys.length<=i)⟩
theorem a9L{k:Nat}(z TI TO i1 i2 l1 l2:Addr)(D:ZipApart z TI TO i1 i2 l1 l2):
 Turn P w K (.Tuple elts k pos) (Itz K l1 l2) [z,TI,TO,i1,i2] z (fun i h=>IsZip h z TI TO .none/\IsPair h TI (.ref i1) (.ref i2)/\(∃a b,IsPair h TO a b)/\h.IsListIter i1 l1 i/\h.IsListIter i2 l2 i) where
 mem:=by simp
 obj:=fun i h st b hb=>by
  obtain⟨hz,hTI,⟨a,c,hTO⟩,⟨o1,e1,c1,d1⟩,⟨o2,e2,c2,d2⟩⟩:=st;simp only[aE,not_mem_nil,or_false] at hb
  rcases hb with rfl|rfl|rfl|rfl|rfl
  · exact⟨_,hz,fun v q=>by have q':Data.fields _=Data.cell v:=q;cases q'⟩
  · exact⟨_,hTI,fun v q=>by have q':Data.seq _ _=Data.cell v:=q;cases q'⟩
  · exact⟨_,hTO,fun v q=>by have q':Data.seq _ _=Data.cell v:=q;cases q'⟩
  · exact⟨o1,e1,fun v q=>by rw[d1] at q;cases q⟩
  · exact⟨o2,e2,fun v q=>by rw[d2] at q;cases q⟩
 keep:=fun i h h' st k=>by
  obtain⟨hz,hTI,⟨a,c,hTO⟩,h1,h2⟩:=st;exact⟨k z (by simp) _ hz,k TI (by simp) _ hTI,⟨a,c,k TO (by simp) _ hTO⟩,h1.at fun o x=>k i1 (by simp) o x,h2.at fun o x=>k i2 (by simp) o x⟩
 item:=by
  intro X hP hw hK hc i pins s σ H E I hf st hg;subst hP hw hK;obtain⟨hz,hTI,⟨a,c,hTO⟩,h1,h2⟩:=st;obtain⟨xs,ys,x,y,hq1,hq2,hx,hy⟩:=hg;obtain⟨its,rv,p,hz1⟩:=I.list hq1;obtain⟨its',rv',p',hz2⟩:=I.list hq2;obtain⟨u,hu,ru⟩:=rv.get hx;obtain⟨u',hu',ru'⟩:=rv'.get hy
  have hzlt:z<s.heap.objs.size:=Heap.lt_size hz
  refine wpAny_pyNext_zip_item D hz hTI hTO h1 h2 p.isList p'.isList (x:=u) (y:=u') (by simpa using hu) (by simpa using hu') fun h' a1 a2 a3 a4 a5 a6 hk=>?_
  refine⟨_,rfl,wpAny_letOwnedTupleGo_zip a1 fun h3 hz3 hs3=>?_⟩
  have kk:∀b o,b∉[z,TI,TO,i1,i2]->s.heap.get? b=some o->h3.get? b=some o:=fun b o hb q=>by
   have n1:b≠z:=fun w=>hb (by simp[w])
   exact(hs3.2 b n1).trans (hk b o n1 (fun w=>hb (by simp[w])) (fun w=>hb (by simp[w])) (fun w=>hb (by simp[w])) q)
  have hT3:h3.get? s.heap.objs.size=some {cls:=.type "tuple",data:=.seq #[u,u']}:=(hs3.2 _ (Nat.ne_of_gt hzlt)).trans a5
  have I1:Inv X pins σ (upd H s.heap.objs.size (.tup [x,y])) {s with heap:=h3,toks:=s.toks}:=
   I.turnedN (fp:=[z,TI,TO,i1,i2]) hf kk (ai _) ⟨by show 2<=sizeLine;decide,[u,u'],.cons ru (.cons ru' .nil),_,hT3,rfl,rfl,_,rfl⟩
  refine⟨.ref s.heap.objs.size,_,I1,rfl,⟨s.heap.objs.size,x,y,I.hok.fresh (ai _),rfl,fun zs hy=>by rw[I.list_inj hy hq1];exact hx,fun zs hy'=>by rw[I.list_inj hy' hq2];exact hy,rfl⟩,
   ⟨hz3,(hs3.2 _ D.TIz).trans (hk _ _ D.TIz D.TITO D.TIi1 D.TIi2 hTI),⟨_,_,(hs3.2 _ D.TOz).trans a2⟩,a3.at fun o x=>(hs3.2 _ D.i1z).trans x,a4.at fun o x=>(hs3.2 _ D.i2z).trans x⟩,fun b hb=>?_⟩
  have hbs:b<s.heap.objs.size:=by
   obtain⟨o1,e1,_⟩:=h1;obtain⟨o2,e2,_⟩:=h2;simp only[aE,not_mem_nil,or_false] at hb
   rcases hb with rfl|rfl|rfl|rfl|rfl
   · exact hzlt
   · exact Heap.lt_size hTI
   · exact Heap.lt_size hTO
   · exact Heap.lt_size e1
   · exact Heap.lt_size e2
  rw[c9 (Nat.ne_of_lt hbs)];exact(hf b hb).1
 done:=by
  intro X hP hw hK hc i pins s σ H E I hf st hg;subst hP hw hK;obtain⟨hz,hTI,⟨a,c,hTO⟩,h1,h2⟩:=st;obtain⟨xs,ys,hq1,hq2,hx⟩:=hg;obtain⟨its,rv,p,hz1⟩:=I.list hq1;obtain⟨its',rv',p',hz2⟩:=I.list hq2;have hl:=rv.length
  have hl':=rv'.length
  refine wpAny_pyNext_zip_end (I.ok.hd hc) D hz hTI hTO h1 h2 p.isList p'.isList ?_ fun h' eb=>⟨rfl,I.turnedF (t':=s.toks) hf fun b o hb q=>eb b o (fun z=>hb (by simp[z])) (fun z=>hb (by simp[z])) (fun z=>hb (by simp[z])) (fun z=>hb (by simp[z])) q⟩
  rcases hx with hx|hx
  · exact .inl (by simp;omega)
  · exact .inr (by simp;omega)
 self:=fun A i s Q E st h=>wpAny_pyIter_zip st.1 h
section
variable{k:Nat}{tpos:Pos}
def c0X(K:PySem.W.Frag)(ta:TA):TI:=fun σ H R=>ta σ H fun vs H1=>∃l1 l2 xs ys,vs=[.ref l1,.ref l2]/\SqL K H1 l1 xs/\SqL K H1 l2 ys/\R (Itz K l1 l2) H1
theorem b5Y{a b:Expr}(hg:Gl X "zip")(hm:X.mg "zip"=none)(ha:PA X [a,b] ta)(hs:starEach [a,b] X.env=(false,eval a X.env)::starEach [b] X.env)(hp:(backTo pos (starEach [b] X.env)).any (·.1)=false):
 PI X (.Tuple elts k tpos) (.Call (.Name "zip" p) [a,b] [] pos) (c0X X.K ta):=by
 intro pins s σ H R I h;refine Call_ (W4 I hg hm boot_zip (PyProof.Rows.callWith_type1 (thn (ha pos pins s σ H _ I h) fun us s1 zz=>?_) hs hp))
 obtain⟨vs,H1,I1,r1,q1⟩:=zz;obtain⟨l1,l2,xs,ys,e,hq1,hq2,q⟩:=q1;subst e;obtain⟨u,u',rfl,ru,ru'⟩:=a3A r1;cases ru;cases ru';obtain⟨its,rv,pl,hz⟩:=I1.list hq1;obtain⟨its',rv',pl',hz'⟩:=I1.list hq2;refine call_zip_2 pl.isList pl'.isList fun h' a1 a2 a3 a4 a5 a6 hk=>?_
 have I2:Inv X pins σ H1 {s1 with heap:=h'}:=I1.kept (t':=s1.toks) hk
 have lt1:l1<s1.heap.objs.size:=by obtain⟨o,e,_⟩:=pl.isList;exact Heap.lt_size e
 have lt2:l2<s1.heap.objs.size:=by obtain⟨o,e,_⟩:=pl'.isList;exact Heap.lt_size e
 refine wpAny_pyIter_zip a1 ⟨s1.heap.objs.size+4,[s1.heap.objs.size+4,s1.heap.objs.size+2,s1.heap.objs.size+3,s1.heap.objs.size,s1.heap.objs.size+1],_,_,H1,rfl,I2,a9L _ _ _ _ _ l1 l2 (zipApart_new lt1 lt2),⟨a1,a2,⟨_,_,a3⟩,a4,a5⟩,fun b hb=>?_,q⟩
 have hb':s1.heap.objs.size<=b:=by
  simp only[aE,not_mem_nil,or_false] at hb
  rcases hb with rfl|rfl|rfl|rfl|rfl
  · exact Nat.le_add_right _ _
  · exact Nat.le_add_right _ _
  · exact Nat.le_add_right _ _
  · exact ai _
  · exact Nat.le_add_right _ _
 exact I1.fpOk hb' (I1.hok.fresh hb')
end
noncomputable def E1(n:Nat)(x:Str):Str:=⟨(List.replicate n x.cps).foldl (· ++ ·) #[]⟩
theorem a3W(x:Array Nat):∀(n:Nat) (a:Array Nat),((List.replicate n x).foldl (· ++ ·) a).toList=a.toList++(List.replicate n x.toList).flatten
 |0,a=>by simp
 |n+1,a=>by rw[replicate_succ,foldl_cons,a3W x n,replicate_succ,flatten_cons];simp
theorem a5J(n:Nat)(x:Str):(E1 n x).cps.toList=(List.replicate n x.cps.toList).flatten:=by
 unfold E1;rw[a3W];simp
theorem a2D(n:Nat)(x:Str):(E1 n x).length=x.length*n:=by
 show(E1 n x).cps.size=x.cps.size*n
 rw[←Array.length_toList,a5J];simp[List.length_flatten,Nat.mul_comm]
theorem a6L(x:Str):E1 1 x=x:=by
 unfold E1;simp
theorem a6M(n:Nat)(x:Str)(h:x.length=0):E1 n x=x:=by
 have h1:(E1 n x).cps.size=0:=by
  have:=a2D n x
  rw[h,Nat.zero_mul] at this;exact this
 have h2:x.cps.size=0:=h
 have e1:=Array.eq_empty_of_size_eq_zero h1;have e2:=Array.eq_empty_of_size_eq_zero h2;cases x
 simp only at e2
 subst e2;generalize hq:E1 n ⟨#[]⟩=q at e1;cases q
 simp only at e1
 rw[e1]
variable{ys:List V}{us:List Value}
section
def b8v:R2:=fun x y H Q=>∃t k,x=.str t/\y=.int k/\ -(2^63)<=k/\k<2^63/\t.length*k.toNat<=sizeLine/\Q (.str (E1 k.toNat t)) H
theorem b3H:OpR X (binaryOp .Mult) b8v:=by
 intro pins s σ H x y v u Q I rx ry h;obtain⟨t,k,rfl,rfl,h1,h2,h3,q⟩:=h;obtain⟨a,rfl⟩:=rx;obtain⟨b,rfl⟩:=ry;refine P.mul_str ?_ ?_ ?_ ?_
 · rw[bB (by omega),bB (by omega)];rfl
 · intro h4 h5 h6
   have hk:0<k:=by omega
   have h8:(t.length:Int)*k<=2^62:=by
    have h9:((t.length*k.toNat:Nat):Int)<=((sizeLine:Nat):Int):=Int.ofNat_le.mpr h3
    rw[Int.natCast_mul,Int.toNat_of_nonneg (by omega),sizeLine_eq] at h9
    exact Int.le_trans h9 (by decide)
   have h7:(t.length:Int)<=(2^63-1)/k:=by
    rw[Int.le_ediv_iff_mul_le hk];omega
   omega
 · intro h4 h5;simp only[Builtin.Str.tooLong,decide_eq_false_iff_not];omega
 · by_cases c1:k<1
   · rw[ay c1]
     have:k.toNat=0:=by omega
     rw[this] at q;exact⟨Nat.zero_le _,.str _,H,I.tok _,⟨_,rfl⟩,q⟩
   · rw [az c1]
     by_cases c2:(k==1||t.length==0)=true
     · rw [ay c2]
       have e:E1 k.toNat t=t:=by
        rw[Bool.or_eq_true] at c2
        rcases c2 with c|c
        · have:k=1:=by simpa using c
          subst this;exact a6L t
        · exact a6M _ _ (by simpa using c)
       rw[e] at q;exact⟨.str _,H,I,⟨_,rfl⟩,q⟩
     · rw[az c2];refine⟨?_,.str _,H,I.tok _,⟨_,rfl⟩,q⟩
       show(E1 k.toNat t).length<=sizeLine
       rw[a2D];exact h3
end
end L2
namespace PySem
open Sem (wp)
theorem a4S:typeLookup (.type "list") "keys"=pure none:=by rw[typeLookup_type,builtinLookup_eq_fast];kernel_rfl
variable{A:Around}
theorem a3P{prog:Program}{w:World}{E:Value->Shared->Prop}{s:Shared}{a:Addr}{o:Obj}{xs:Array Value}{k:Nat}{Q:Option Value->Shared->Prop}
 (hx:s.heap.get? a=some o) (hc:o.cls=.type "list") (hdat:o.data=.seq xs k) (hd:o.dict=none) (hA:A.handled=none)
 (h:∀h' tk,(∀b ob,s.heap.get? b=some ob->h'.get? b=some ob)->Q none {s with heap:=h',toks:=tk}):wpAny (model prog w) A (getAttr? (.ref a) "keys") Q E s:=by
 obtain⟨c,dct,dat,sl⟩:=o
 simp only at hc hdat hd
 subst hc hdat hd;obtain⟨hp,g,d,tk,os⟩:=s
 have hT:∀tk',(⟨hp,g,d,tk',os⟩:Shared).TypeIs (.ref a) "list":=fun _=>⟨_,hx,rfl⟩
 have f1:=sub_AttributeError;have f3:=F.slot_list_getattribute.lookup;have f4:=F.slot_list_getattribute.bind (.ref a);have f5:=am_list_getattr_none;unfold getAttr? getAttrBy? getAttrBy
 repeat (any_goals (first|assumption|exact hT _|((with_reducible show wpAny _ _ (call (Value.builtin "list.__getattribute__") _ _) _ _ _);refine call_meets F.slot_list_getattribute (hT _) am_entry_list_getattribute (F.args_list_getattribute_2 _ _) (meets_getattribute_miss_list a xs k sl "keys" _ a4S (by decide) (by decide)) ⟨hx,hA,fun h' tk' e hx'=>?_⟩)|wp_step))
 obtain⟨t2,u2,he⟩:=hx'.there
 show wpAny _ _ (getattributeRaised _ _ _ _ _ _ _) _ _ _
 unfold getattributeRaised
 repeat (any_goals (first|assumption|wp_step))
 exact h _ _ hx'.keeps
open PyProof.Rows
theorem t7:plainId "dict.update.loop"=true:=by decide+kernel
theorem K7:entryFor table "dict.update.loop"=some Builtin.«dict.update.loop»:=entryFor_of_tree (by kernel_rfl)
variable{l:Addr}{items:Array Value}{Q:Value->Shared->Prop}
section
variable{prog:Program}{w:World}{K:Type}[DecidableEq K]{knd:KeyKind prog w K}
theorem a2P{E:Value->Shared->Prop}{s:Shared}{t:Addr}{a b:Value}{Q:List Value->Shared->Prop}(ht:IsTup s.heap t #[a,b])(h:Q [a,b] s):wpAny (model prog w) A (Builtin.Dict.pairItems (.ref t)) Q E s:=by
 obtain⟨o,ho,hc,n,hd⟩:=ht;obtain⟨hp,g,d,tk,os⟩:=s
 have hT:(⟨hp,g,d,tk,os⟩:Shared).TypeIs (.ref t) "tuple":=⟨_,ho,hc⟩
 unfold Builtin.Dict.pairItems
 repeat (any_goals (first|assumption|wp_step))
 rw[hd];exact wpAny_pure (wpAny_pure h)
theorem a9I{d it:Addr}{ps:List (K×Value)}(n1:d≠it)(n2:d≠l)(n3:it≠l)(hsz:items.size=ps.length)(k:Nat):∀(i:Nat) (kvs:List (K×Value)),ps.length-i=k->i<=ps.length->MeetsIn prog w (Builtin.«dict.update.loop» ⟨[.ref d,.ref it,rawInt i,.none],[]⟩)
 (fun A R s=>A.handled=none/\s.heap.IsListIter it l i/\s.heap.IsList l items/\s.heap.DictOf knd d kvs/\kvs.length+(ps.length-i)<=sizeLine∧
  (∀(j:Nat) (p:K×Value),ps[j]? =some p->∃t kv,items[j]? = ~~~t/\t≠d/\t≠it/\IsTup s.heap t #[kv,p.2]/\knd.is p.1 kv=true)∧
  ∀h' tk,h'.DictOf knd d (merged kvs (ps.drop i))->(∀b o,b≠d->b≠it->s.heap.get? b=some o->h'.get? b=some o)->R (.ok (.ret .none)) {s with heap:=h',toks:=tk}):=by
 induction k with
 |zero=>
  intro i kvs hk hi A R s h;obtain⟨hA,hit,hl,hd,hz,hq,h⟩:=h
  have hx:items[i]? =none:=by rw[Array.getElem?_eq_none];omega
  have hdr:ps.drop i=[]:=List.drop_eq_nil_of_le (by omega)
  rw[hdr] at h;unfold Builtin.«dict.update.loop»;refine wpAny_bind (wpAny_pyNext_list_end hA hit hl hx fun h' eb=>?_)
  refine wpAny_bind ?_
  unfold Builtin.Dict.addKeywords;refine wpAny_pure (wpAny_pure (h h' s.toks ?_ fun b o n1 n2 e=>eb b o n2 e))
  exact hd.extBut eb n1
 | succ k ih=>
  intro i kvs hk hi A R s h;obtain⟨hA,hit,hl,hd,hz,hq,h⟩:=h
  have hlt:i<ps.length:=by omega
  obtain⟨t,kv,e1,e2,e3,e4,e5⟩:=hq i ps[i] (af hlt)
  have hdr:ps.drop i=ps[i]::ps.drop (i+1):=List.drop_eq_getElem_cons hlt
  unfold Builtin.«dict.update.loop»;refine wpAny_bind (wpAny_pyNext_list_item hit hl e1 fun h1 st sb=>?_)
  have k1:∀b o,b≠it->s.heap.get? b=some o->h1.get? b=some o:=fun b o n e=>(sb.2 b n).trans e
  refine wpAny_bind (wpAny_holding (wpAny_bind (wpAny_tryCatch (a2P (show IsTup h1 t #[kv,ps[i].2] from let⟨o,ho,r⟩:=e4;⟨o,k1 t o e3 ho,r⟩) ?_))))
  refine wpAny_holding (wpAny_dictSet_pairs (hsz:=by omega) e5 (hd.sameBut sb n1) fun h2 dd sb2=>?_)
  have k2:∀b o,b≠d->b≠it->s.heap.get? b=some o->h2.get? b=some o:=fun b o n n' e=>(sb2.2 b n).trans (k1 b o n' e)
  refine wpAny_pure ⟨plainId_quiet t7 _,codeAny_builtin K7 (by
   rw[Around.under_plainId t7 _,show((i:Nat):Int)+1=((i+1:Nat):Int) by omega]
   refine ih (i+1) (stored kvs ps[i].1 ps[i].2) (by omega) (by omega) A R _ ⟨hA,?_,?_,dd,?_,fun j p hj=>?_,fun h' tk d1 d2=>?_⟩
   · obtain⟨o,ho,r⟩:=st;exact⟨o,(sb2.2 it n1.symm).trans ho,r⟩
   · obtain⟨o,ho,r⟩:=hl;exact⟨o,k2 l o n2.symm n3.symm ho,r⟩
   · have:=stored_length_le kvs ps[i].1 ps[i].2
     omega
   · obtain⟨t,kv,q1,q2,q3,⟨o,ho,r⟩,q5⟩:=hq j p hj;exact⟨t,kv,q1,q2,q3,⟨o,k2 t o q2 q3 ho,r⟩,q5⟩
   · refine h h' tk ?_ fun b o n n' e=>d2 b o n n' (k2 b o n n' e)
     rw[hdr];exact d1)⟩
theorem a2e{E:Value->Shared->Prop}{s:Shared}{ol:Obj}{n:Nat}{ps:List (K×Value)}(hA:A.handled=none)(hx:s.heap.get? l=some ol)(hc:ol.cls=.type "list")(hdat:ol.data=.seq items n)(hd:ol.dict=none)(hsz:items.size=ps.length)(hz:ps.length<=sizeLine)
 (hq:∀(j:Nat) (p:K×Value),ps[j]? =some p->∃t kv,items[j]? = ~~~t/\IsTup s.heap t #[kv,p.2]/\knd.is p.1 kv=true)
 (h:∀h' tk,h'.DictOf knd s.heap.objs.size (merged [] ps)->(∀b o,s.heap.get? b=some o->h'.get? b=some o)->Q (.ref s.heap.objs.size) {s with heap:=h',toks:=tk}):
 wpAny (model prog w) A (call (.type "dict") [.ref l]) Q E s:=by
 refine callType_codes (Q₁:=fun obj s₁=>obj=.ref s.heap.objs.size/\s₁={s with heap:=s.heap.push {cls:=.type "dict",data:=.dict #[]}}) F.kt_called_dict (F.kt_typeCall_dict_1 _) F.entry_dict_init (kt_code_dict_new _ ⟨rfl,rfl⟩) ?_
 rintro obj s₁ ⟨rfl,rfl⟩
 have hnew:(s.heap.push {cls:=.type "dict",data:=.dict #[]}).DictOf knd s.heap.objs.size []:=Heap.DictOf.new s.heap
 have hx1:(s.heap.push {cls:=.type "dict",data:=.dict #[]}).get? l=some ol:=Heap.get?_push_of_some _ hx
 have ty:Shared.TypeIs {s with heap:=s.heap.push {cls:=.type "dict",data:=.dict #[]}} (.ref l) "list":=⟨_,hx1,hc⟩
 have nl:s.heap.objs.size≠l:=fun e=>absurd (Heap.lt_size hx) (by rw[e];exact aR _)
 refine⟨hnew.typeIs,F.args_dict_init_2 _ _,?_⟩
 unfold Builtin.«dict.__init__»;refine wpAny_bind ?_
 unfold Builtin.Dict.selfAndRest;refine wpAny_bind (wpAny_notOrdered_dict hnew.typeIs ?_)
 show wpAny _ _ (pure (s.heap.objs.size,[Value.ref l])) _ _ _
 refine wpAny_pure ?_
 show wpAny _ _ (Builtin.Dict.updateFrom "dict.__init__" s.heap.objs.size (.ref l) [] .none) _ _ _
 unfold Builtin.Dict.updateFrom;refine wpAny_bind (wpAny_typeOf ty ?_)
 rw[ay (by decide)]
 refine wpAny_bind (a3P hx1 hc hdat hd ?_ fun h1 tk1 k1=>?_)
 · exact hA
 · rw [ay (show(none:Option Value).isNone=true from rfl)]
   have hx2:h1.get? l=some ol:=k1 l _ hx1
   have hd2:h1.DictOf knd s.heap.objs.size []:=hnew.keep k1
   have lt1:s.heap.objs.size<h1.objs.size:=by
    obtain⟨o,_,_,ho,_⟩:=hd2;exact Heap.lt_size ho
   refine wpAny_bind (wpAny_rule (wpAny_bind (wpAny_pyIter_list (items:=items) ⟨ol,hx2,hc,n,hdat⟩ ?_)))
   refine wpAny_pure ⟨plainId_quiet t7 _,codeAny_builtin K7 (by
    rw[Around.under_plainId t7 _];refine a9I (knd:=knd) (d:=s.heap.objs.size) (it:=h1.objs.size) (l:=l) (ps:=ps) (Nat.ne_of_lt lt1) nl (fun e=>absurd (Heap.lt_size hx2) (by rw[←e];exact aR _)) hsz _ 0 [] rfl (Nat.zero_le _) A.in1 _ _ ⟨hA,⟨_,Heap.get?_push_size _ rfl,rfl,rfl⟩,⟨ol,Heap.get?_push_of_some _ hx2,hc,n,hdat⟩,hd2.push _,by simpa using hz,fun j p hj=>?_,fun h' tk d1 d2=>⟨rfl,?_⟩⟩
    · obtain⟨t,kv,q1,⟨o,ho,r⟩,q3⟩:=hq j p hj;have ho1:=k1 t o (Heap.get?_push_of_some _ ho)
      exact⟨t,kv,q1,fun e=>absurd (Heap.lt_size ho) (by rw[e];exact aR _),fun e=>absurd (Heap.lt_size ho1) (by rw[e];exact aR _),⟨o,Heap.get?_push_of_some _ ho1,r⟩,q3⟩
    · refine h h' tk (by rwa [drop_zero] at d1) fun b o e=>d2 b o (fun z=>absurd (Heap.lt_size e) (by rw[z];exact aR _)) (fun z=>?_) (Heap.get?_push_of_some _ (k1 b o (Heap.get?_push_of_some _ e)))
      have:=Heap.lt_size (k1 b o (Heap.get?_push_of_some _ e))
      rw[z] at this;exact absurd this (aR _))⟩
end
end PySem
namespace L2
open PySem PySem.Spec PyProof.Rows
def PrT(H:Hp):List V->List (Key×V)->Prop:=Paired fun y p=>∃t,y=.ref t/\H t=some (.tup [kV p.1,p.2])
section
variable{X:Cx}
theorem b0F{pins:List (Addr×Obj)}{σ:St}{H:Hp}{s:Shared}(I:Inv X pins σ H s):∀{ys:List V} {kvs:List (Key×V)} {its:List Value},PrT H ys kvs->i7 ys its->∃ps:List (Key×Value),KV kvs ps/\ps.length=its.length/\∀(j:Nat) (p:Key×Value),ps[j]? =some p->∃t kv,its[j]? = ~~~t/\IsTup s.heap t #[kv,p.2]/\(n9 X.prog X.w).is p.1 kv=true
 |_,_,_,.nil,.nil=>⟨[],.nil,rfl,fun j p h=>by simp at h⟩
 | _,_,_,.cons h t,.cons r q=>by
  obtain⟨ps,k1,k2,k3⟩:=b0F I t q;obtain⟨a,rfl,ha⟩:=h;cases r;obtain⟨_,its,rv,pa⟩:=I.hok a _ ha;obtain⟨u,w,rfl,ru,rw'⟩:=a3A rv;refine⟨(_,w)::ps,.cons ⟨rfl,rw'⟩ k1,by rw[length_cons,length_cons,k2],fun j p hj=>?_⟩
  cases j with
  |zero=>
   cases hj;exact⟨a,u,rfl,pa.tup,Z8 ru⟩
  |succ j=>exact k3 j p hj
theorem a5t(hc:X.calm=true):C6 X (.type "dict") (fun xs H Q=>∃p ys kvs,xs=[.ref p]/\SqL X.K H p ys/\PrT H ys kvs/\∀d,H d=none->Q (.ref d) (upd H d (.dK (W1 [] kvs)))):=by
 intro pins s σ H xs us Q I r h;obtain⟨p,ys,kvs,rfl,hq,pr,q⟩:=h;obtain⟨u,rfl,rx⟩:=Q0 r;cases rx;obtain⟨its,rv,pl,hz⟩:=I.list hq;obtain⟨o,n,e,c,hd,dat⟩:=pl;obtain⟨ps,k1,k2,k3⟩:=b0F I pr rv;have l1:=rv.length;have l2:=Paired.length pr;refine a2e (knd:=n9 X.prog X.w) (items:=its.toArray) (ps:=ps) (I.ok.hd hc) e c dat hd (by simp[k2]) (by omega) (fun j p hj=>?_) fun h' tk dd kp=>?_
 · obtain⟨t,kv,q1,q2,q3⟩:=k3 j p hj;exact⟨t,kv,by simpa using q1,q2,q3⟩
 · have hl:=U1 kvs [];rw[length_nil] at hl;exact⟨.ref s.heap.objs.size,_,I.laid (t':=tk) (fun b o e=>kp b o e) (ai _) (a7p (by omega) (beq_eq_false_iff_ne.mpr (Nat.ne_of_gt I.big)) (k1.merge .nil) dd),rfl,q _ (I.hok.fresh (ai _))⟩
theorem b2o(hc:X.calm=true):C6 X (.builtin "sum") (fun xs H Q=>∃p,∃is:List Int,xs=[.ref p]/\SqL X.K H p (is.map V.int)/\Q (.int is.sum) H):=by
 intro pins s σ H xs us Q I r h;obtain⟨p,is,rfl,hq,q⟩:=h;obtain⟨u,rfl,rx⟩:=Q0 r;cases rx;obtain⟨its,rv,pl,hz⟩:=I.list hq;have hi:=a7h rv;obtain⟨xs,hx⟩:=hi.allInts.items;refine sum_intListG (I.ok.hd hc) (hx▸pl.isList) fun h' tk t' hk=>?_
 have e1:is=xs.toList.map (·.1):=by
  rw[←nums_intItems,←hx];exact(show numsOf its.toArray.toList=is from hi.numsOf).symm
 have e2:preSum (numAt xs) xs.size=is.sum:=by
  rw[preSum_eq,bp (by simp),e1]
 rw[e2];exact⟨.int _,H,I.kept (t':=tk) hk,⟨_,rfl⟩,q⟩
end
end L2
namespace PySem
open Sem (wp)
variable{Q:Value->Shared->Prop}
section
variable{prog:Program}{w:World}{A:Around}{E:Value->Shared->Prop}{s:Shared}{r:Addr}{a b c:Int}{t u v:Tok}{n:Nat}
theorem a3u{Q:List Value->Shared->Prop}(hh:A.handled=none)(hr:IsRange s.heap r a b c t u v)(hsmall:Builtin.Range.small a b c=true)(hn:Builtin.Range.rangeSize a b c=n)(hlen:n<=2^24)
 (hQ:∀(h':Heap) tk acc,(∀b o,s.heap.get? b=some o->h'.get? b=some o)->ItemsOf (fun i v=>∃t,v=.int (a+i*c) t) acc n->Q acc.toList {s with heap:=h',toks:=tk}):wpAny (model prog w) A (collect (.ref r)) Q E s:=by
 unfold collect;refine wpAny_bind (wpAny_runValue (codeAny_builtin F.entry_proto_collect ?_))
 rw[Around.under_plainId F.plain_proto_collect _]
 show wpAny _ A.in1 (newList []>>=fun l=>again (.builtin "list.__iadd__" ⟨[l,.ref r],[]⟩)) _ _ s
 refine wpAny_bind (wpAny_newObj_type ?_)
 have hS:(s.heap.push {cls:=.type "list",data:=.seq ([]:List Value).toArray}).get? s.heap.objs.size=some {cls:=.type "list",data:=.seq ([]:List Value).toArray}:=Heap.get?_push_size _ rfl
 have H:∀R:Result->Shared->Prop,(∀(h':Heap) tk acc' c',(∀b o,b≠s.heap.objs.size->(s.heap.push {cls:=.type "list",data:=.seq ([]:List Value).toArray}).get? b=some o->h'.get? b=some o)->h'.get? s.heap.objs.size=some {cls:=.type "list",dict:=none,data:=.seq acc' c',slots:= #[]}->ItemsOf (fun i v=>∃t,v=.int (a+i*c) t) acc' n->R (.ok (.ret (.ref s.heap.objs.size))) {s with heap:=h',toks:=tk})->codeAny (model prog w) A (.builtin "list.__iadd__" ⟨[.ref s.heap.objs.size,.ref r],[]⟩) R {s with heap:=s.heap.push {cls:=.type "list",data:=.seq ([]:List Value).toArray}}:=fun R hR=>codeAny_builtin F.entry_list_iadd (by
  rw[Around.under_plainId F.plain_list_iadd _];exact wpAny_extend_range (s:={s with heap:=s.heap.push {cls:=.type "list",data:=.seq ([]:List Value).toArray}}) hh (Heap.get?_push_of_some _ hr) hsmall hn hlen s.heap.objs.size _ 0 hS hR)
 refine wpAny_pure ⟨plainId_quiet F.plain_list_iadd _,H _ fun h' tk acc' c' hk hS' hacc=>?_⟩
 show wpAny _ A (load s.heap.objs.size>>=_) _ _ _
 refine wpAny_bind (wpAny_load hS' ?_)
 exact wpAny_pure (hQ h' tk acc' (fun b o e=>hk b o (Nat.ne_of_lt (Heap.lt_size e)) (Heap.get?_push_of_some _ e)) hacc)
theorem a1J{Q₁:Value->Shared->Prop}(hh:A.handled=none)(hr:IsRange s.heap r a b c t u v)(hsmall:Builtin.Range.small a b c=true)(hn:Builtin.Range.rangeSize a b c=n)(hlen:n<=2^24)
 (h:∀(h':Heap) tk acc,(∀b o,s.heap.get? b=some o->h'.get? b=some o)->ItemsOf (fun i v=>∃t,v=.int (a+i*c) t) acc n->Q₁ (.ref h'.objs.size) {s with heap:=h'.push {cls:=.type "tuple",data:=.seq acc},toks:=tk}):
 codeAny (model prog w) A (.call (.builtin "tuple.__new__") ⟨[.type "tuple",.ref r],[]⟩) (wants Q₁ E) s:=by
 refine codeAny_of_tree ?_
 show wpAny _ A.in1 (do checkBuiltinCall "tuple.__new__" ⟨[.type "tuple",.ref r],[]⟩;again (.builtin "tuple.__new__" ⟨[.type "tuple",.ref r],[]⟩)) _ _ s
 refine wpAny_bind (wpAny_of_eq (F.newCall_tuple_1 _) (wpAny_pure ⟨plainId_quiet F.plain_tuple_new _,codeAny_builtin F.entry_tuple_new ?_⟩))
 rw[Around.under_plainId F.plain_tuple_new _];have hsub:=sub_tuple_self;have hinit:=init_tuple_lookup;have hmh:=madeHere_tuple
 have hTI:s.TypeIs (.ref r) "range":=⟨_,hr,rfl⟩
 wp_walk using wpAny_typeOf hTI,a3u (A:=A.in1) hh hr hsmall hn hlen
 intro h' tk acc hk hacc
 show wpAny _ _ (Builtin.Tuple.tupleExact acc.toList.toArray>>=fun v=>ret v) _ _ _
 unfold Builtin.Tuple.tupleExact;refine wpAny_bind (wpAny_newObj_type ?_ (by show acc.toList.toArray.size<=sizeLine;simp only[Array.toArray_toList];rw[hacc.1];exact aU hlen (by decide)))
 refine wpAny_pure ?_
 rw[show acc.toList.toArray=acc by simp]
 exact h h' tk acc hk hacc
theorem a1K(hh:A.handled=none)(hr:IsRange s.heap r a b c t u v)(hsmall:Builtin.Range.small a b c=true)(hn:Builtin.Range.rangeSize a b c=n)(hlen:n<=2^24)
 (hQ:∀(h':Heap) tk acc,(∀b o,s.heap.get? b=some o->h'.get? b=some o)->ItemsOf (fun i v=>∃t,v=.int (a+i*c) t) acc n->Q (.ref h'.objs.size) {s with heap:=h'.push {cls:=.type "tuple",data:=.seq acc},toks:=tk}):wpAny (model prog w) A (call (.type "tuple") [.ref r]) Q E s:=by
 refine callType_codes (Q₁:=fun obj s₁=>s₁.TypeIs obj "tuple"/\Q obj s₁) F.called_tuple (F.typeCall_tuple_1 _) F.entry_object_init
  (a1J (A:=A.in1) hh hr hsmall hn hlen fun h' tk acc hk hacc=>⟨⟨_,Heap.get?_push_size _ rfl,rfl⟩,hQ h' tk acc hk hacc⟩) fun obj s₁ h₁=>?_
 exact⟨h₁.1,F.args_object_init_2 obj _,object_init_meets F.called_tuple.init.lookup F.called_tuple.made (by decide) prog w A.in1 _ s₁ ⟨h₁.1,rfl,h₁.2⟩⟩
end
end PySem
namespace L2
open PySem PySem.Spec PyProof.Rows
section
variable{X:Cx}
theorem a3M{α β:Type}{R:α->β->Prop}:∀{xs:List α} {us:List β},xs.length=us.length->(∀(j:Nat) x u,xs[j]? =some x->us[j]? =some u->R x u)->Paired R xs us
 |[],[],_,_=>.nil
 |[],_::_,h,_=>by cases h
 |_::_,[],h,_=>by cases h
 |x::xs,u::us,h,k=>.cons (k 0 x u rfl rfl) (a3M (Nat.succ.inj h) fun j x u h1 h2=>k (j+1) x u h1 h2)
def b8u:List V->Hp->VK->Prop:=fun xs H Q=>∃i j:Int,xs=[.int i,.int j]/\∀r,H r=none->Q (.ref r) (upd H r (.rng i j))
theorem b2p:C6 X (.type "range") b8u:=by
 intro pins s σ H xs us Q I r h;obtain⟨i,j,rfl,q⟩:=h;obtain⟨u,w',rfl,⟨t,rfl⟩,⟨t',rfl⟩⟩:=a3A r;refine call_range_2 ?_
 exact⟨.ref s.heap.objs.size,_,I.laid (fun b o e=>Heap.get?_push_of_some _ e) (ai _) (show p0 X.prog X.w _ _ _ (.rng i j) from⟨_,_,_,Heap.get?_push_size _ rfl⟩),rfl,q _ (I.hok.fresh (ai _))⟩
def rTR:List V->Hp->VK->Prop:=fun xs H Q=>∃(r:Addr) (lo hi:Int),xs=[.ref r]/\H r=some (.rng lo hi)/\(-(2^62)<=lo/\lo<2^62/\ -(2^62)<=hi/\hi<2^62)/\(hi-lo).toNat<=2^24/\∀t,H t=none->Q (.ref t) (upd H t (.tup ((List.range (hi-lo).toNat).map fun(i:Nat)=>V.int (lo+i))))
theorem a9B(hc:X.calm=true):C6 X (.type "tuple") rTR:=by
 intro pins s σ H xs us Q I r h;obtain⟨ra,lo,hi,rfl,hr,⟨b1,b2,b3,b4⟩,hz,q⟩:=h;obtain⟨u,rfl,rx⟩:=Q0 r;cases rx;obtain⟨t,u,v,e⟩:=I.hok ra _ hr;refine a1K (n:=(hi-lo).toNat) (I.ok.hd hc) (show IsRange s.heap ra lo hi 1 t u v from e) (small_one b1 b2 b3 b4) (by rw[rangeSize_one];split<;>omega) hz fun h' tk acc hk hacc=>?_
 have I1:Inv X pins σ H {s with heap:=h',toks:=tk}:=I.kept (t':=tk) hk
 have rel:i7 ((List.range (hi-lo).toNat).map fun(i:Nat)=>V.int (lo+i)) acc.toList:=by
  refine a3M (by rw[aa,aI,Array.length_toList];exact hacc.1.symm) fun j x w h1 h2=>?_
  rw[Array.getElem?_toList] at h2
  obtain⟨t,rfl⟩:=hacc.2 j w h2
  have hj:j<(hi-lo).toNat:=by
   have:=(ac.mp h1).1
   simpa using this
  rw[aj,aJ hj] at h1
  cases h1;refine⟨t,?_⟩
  rw[Int.mul_one]
 refine⟨.ref h'.objs.size,_,I1.laid (t':=tk) (fun b o e=>Heap.get?_push_of_some _ e) (ai _) (show p0 X.prog X.w _ _ _ (.tup _) from⟨by rw[aa,aI];exact aU hz (by decide),acc.toList,rel,by simpa using a0j.new h' acc⟩),rfl,q _ (I1.hok.fresh (ai _))⟩
end
end L2
namespace PySem
open Sem (wp)
variable{l:Addr}{items:Array Value}{Q:Value->Shared->Prop}
section
variable{prog:Program}{w:World}{A:Around}{E:Value->Shared->Prop}{s:Shared}
theorem b3Q:typeLookup (.type "list_reverseiterator") "__len__"=pure none:=by rw[typeLookup_type,builtinLookup_eq_fast];kernel_rfl
theorem b1h:typeLookup (.type "list_reverseiterator") "__length_hint__"=pure (some (.builtin "list_reverseiterator.__length_hint__")):=by rw[typeLookup_type,builtinLookup_eq_fast];kernel_rfl
theorem b0q{r:Addr}(hT:s.TypeIs (.ref r) "list_reverseiterator"){Q:Bool->Shared->Prop}(h:Q false s):wpAny (model prog w) A (Builtin.List.listLengthHint (.ref r)) Q E s:=by
 unfold Builtin.List.listLengthHint;refine wpAny_bind (wpAny_specialOf hT b3Q ?_)
 show wpAny _ A (specialOf (Value.ref r) (Str.ofString "__length_hint__")>>=_) _ _ _
 refine wpAny_bind (wpAny_specialOf hT b1h ?_)
 generalize hid:("list_reverseiterator.__length_hint__":String)=id0
 wp_delta
 rw[show splitId id0=some ("list_reverseiterator","__length_hint__") from by subst hid;decide+kernel]
 subst hid;refine wpAny_bind (wpAny_isInstance (T:="list_reverseiterator") (b:=true) hT (by rw[isSubtype_type];kernel_rfl) ?_)
 refine wpAny_ite_split (fun hab=>absurd hab (by decide)) (fun _=>?_)
 refine wpAny_ite_split (fun _=>?_) (fun hab=>absurd (by decide+kernel) hab)
 refine wpAny_ite_split (fun hab=>absurd hab (by decide)) (fun _=>?_)
 exact wpAny_pure h
theorem b0p{R:Result->Shared->Prop}{S I:Addr}(hh:A.handled=none)(nSI:S≠I)(nS:l≠S)(nI:l≠I)(hn:items.size<=sizeLine)(res:Value){h0:Heap}
 (done:∀(g:Heap) (acc:Array Value) (c:Nat),(∀b o,b≠S->b≠I->h0.get? b=some o->g.get? b=some o)->g.get? S=some {cls:=.type "list",dict:=none,data:=.seq acc c,slots:= #[]}->acc.toList=items.toList.reverse->R (.ok (.ret res)) {s with heap:=g}):
 ∀(k i:Nat) (h:Heap) (c:Nat) (acc:Array Value),items.size-i=k->i<=items.size->h.IsRevIter I l ((items.size:Int)-1-(i:Int))->h.IsList l items->(∀b o,b≠S->b≠I->h0.get? b=some o->h.get? b=some o)→
  h.get? S=some {cls:=.type "list",dict:=none,data:=.seq acc c,slots:= #[]}->acc.toList=items.toList.reverse.take i->codeAny (model prog w) A (.builtin "list.extend.loop" ⟨[.ref S,.ref I,res],[]⟩) R {s with heap:=h}:=by
 intro k
 induction k with
 |zero=>
  intro i h c acc hk hi st hl kp hS ha
  have e:(items.size:Int)-1-(i:Int)= -1:=by omega
  rw[e] at st;refine codeAny_builtin F.entry_extend_loop ?_
  rw[Around.under_plainId F.plain_extend_loop _]
  show wpAny _ A.in1 (pyNext (.ref I)>>=_) _ _ _
  refine wpAny_bind (wpAny_pyNext_rev_end (s:={s with heap:=h}) (A:=A.in1) hh st fun g eb=>wpAny_pure (done g acc c (fun b o b1 b2 e=>eb b o b2 (kp b o b1 b2 e)) (eb S _ nSI hS) ?_))
  rw[ha];exact bp (by rw[length_reverse,Array.length_toList];omega)
 | succ k ih=>
  intro i h c acc hk hi st hl kp hS ha
  have li:i<items.size:=by omega
  have e:(items.size:Int)-1-(i:Int)=((items.size-1-i:Nat):Int):=by omega
  have hx:items[items.size-1-i]? =some (items[items.size-1-i]'(by omega)):=Array.getElem?_eq_getElem (by omega)
  have zs:acc.size=i:=by rw[←Array.length_toList,ha,aM,length_reverse,Array.length_toList];omega
  rw[e] at st;refine codeAny_builtin F.entry_extend_loop ?_
  rw[Around.under_plainId F.plain_extend_loop _]
  show wpAny _ A.in1 (pyNext (.ref I)>>=_) _ _ _
  refine wpAny_bind (wpAny_pyNext_rev_item (s:={s with heap:=h}) st hl hx fun g st2 k2=>?_)
  have e2:((items.size-1-i:Nat):Int)-1=(items.size:Int)-1-((i+1:Nat):Int):=by omega
  rw[e2] at st2;generalize items[items.size-1-i]'(by omega)=x at hx⊢
  have kk:∀b o,b≠I->h.get? b=some o->g.get? b=some o:=fun b o hb e=>(k2.2 b hb).trans e
  have hS2:=kk S _ nSI hS
  have up:∀b o,b≠S->g.get? b=some o->(g.update S (Obj.mapSeq (·.push x))).get? b=some o:=fun b o hb e=>(Heap.get?_update_other _ _ (Ne.symm hb)).trans e
  show wpAny _ A.in1 (updateSeq S (·.push x)>>=_) _ _ _
  refine wpAny_bind (wpAny_updateSeq hS2 rfl (wpAny_pure ⟨plainId_quiet F.plain_extend_loop _,?_⟩) (by rw[zs];omega) (by show(acc.push x).size<=sizeLine+1;rw[Array.size_push,zs];omega))
  refine ih (i+1) _ _ (acc.push x) (by omega) li (st2.at fun o e=>up I o (Ne.symm nSI) e) (hl.at fun o e=>up l o nS (kk l o nI e)) (fun b o b1 b2 e=>up b o b1 (kk b o b2 (kp b o b1 b2 e))) (Heap.get?_update_self _ hS2 rfl) ?_
  have lr:i<items.toList.reverse.length:=by rw[length_reverse,Array.length_toList];exact li
  rw[Array.toList_push,ha,take_succ_eq_append_getElem lr];congr 2
  have:items.toList.reverse[i]? =some x:=by
   rw[List.getElem?_reverse (by rw[Array.length_toList];exact li),Array.length_toList,Array.getElem?_toList]
   exact hx
  exact(ax ((af lr).symm.trans this)).symm
theorem b3g{R:Result->Shared->Prop}{I S:Addr}{c0:Nat}(hh:A.handled=none)(hv:s.heap.IsRevIter I l ((items.size:Int)-1))(hl:s.heap.IsList l items)(nSI:S≠I)(nS:l≠S)(nI:l≠I)(res:Value)(hS:s.heap.get? S=some {cls:=.type "list",data:=.seq #[] c0})(hn:items.size<=sizeLine)
 (done:∀(g:Heap) (acc:Array Value) (c:Nat),(∀b o,b≠S->b≠I->s.heap.get? b=some o->g.get? b=some o)->g.get? S=some {cls:=.type "list",dict:=none,data:=.seq acc c,slots:= #[]}->acc.toList=items.toList.reverse->R (.ok (.ret res)) {s with heap:=g}):
 wpAny (model prog w) A.in1 (Builtin.List.listExtendWith (.ref S) (.ref I) res) (fun fin s'=>match fin with|.done f=>R (.ok f) s'|.again c'=>c'.quiet=true/\codeAny (model prog w) A c' R s') (fun e s'=>R (.error e) s') s:=by
 unfold Builtin.List.listExtendWith;refine wpAny_bind (wpAny_typeOf (T:="list_reverseiterator") hv.typeIs ?_)
 have n1:Builtin.List.listSameRef (.ref S) (.ref I)=false:=by simp[Builtin.List.listSameRef,nSI]
 have n2:(Value.type "list_reverseiterator"==Value.type "list")=false:=by decide
 have n3:(Value.type "list_reverseiterator"==Value.type "tuple")=false:=by decide
 simp only[n1,n2,n3,Bool.or_false,Bool.false_eq_true,if_false];refine wpAny_bind (wpAny_pyIter_revIter hv ?_)
 refine wpAny_bind (wpAny_holding (b0q hv.typeIs ?_))
 refine wpAny_ite_split (fun hab=>absurd hab (by decide+kernel)) fun _=>wpAny_pure ⟨plainId_quiet F.plain_extend_loop _,?_⟩
 exact b0p (s:=s) (h0:=s.heap) hh nSI nS nI hn res done items.size 0 s.heap c0 #[] (Nat.sub_zero _) (Nat.zero_le _) (by rw[Int.ofNat_zero,Int.sub_zero];exact hv) hl (fun _ _ _ _ e=>e) hS rfl
theorem b0r{I:Addr}(hh:A.handled=none)(hv:s.heap.IsRevIter I l ((items.size:Int)-1))(hl:s.heap.IsList l items)(nI:l≠I)(hn:items.size<=sizeLine)
 (done:∀(g:Heap) (acc:Array Value) (c:Nat),(∀b o,b≠I->s.heap.get? b=some o->g.get? b=some o)->g.get? s.heap.objs.size=some {cls:=.type "list",dict:=none,data:=.seq acc c,slots:= #[]}->acc.toList=items.toList.reverse->Q (.ref s.heap.objs.size) {s with heap:=g}):
 wpAny (model prog w) A (call (.type "list") [.ref I]) Q E s:=by
 refine callType_codes (Q₁:=fun o s1=>o=.ref s.heap.objs.size/\s1={s with heap:=s.heap.push {cls:=.type "list",data:=.seq #[]}}) F.called_list (F.typeCall_list_1 _) F.entry_list_init (code_list_new _ ⟨rfl,rfl⟩) fun o s1 x=>?_
 obtain⟨rfl,rfl⟩:=x
 have hS:(s.heap.push {cls:=.type "list",data:=.seq #[]}).get? s.heap.objs.size=some {cls:=.type "list",data:=.seq #[]}:=Heap.get?_push_size _ rfl
 have lr:I<s.heap.objs.size:=let⟨_,ho,_⟩:=hv;Heap.lt_size ho
 have ld:l<s.heap.objs.size:=let⟨_,ho,_⟩:=hl;Heap.lt_size ho
 refine⟨⟨_,hS,rfl⟩,F.args_list_init_2 _ _,?_⟩
 show wpAny _ _ (do let old←Builtin.List.listItems (.ref s.heap.objs.size);Builtin.List.listUpdate (.ref s.heap.objs.size) (fun _=> #[]);letGo old.toList.reverse;Builtin.List.listExtendWith (.ref s.heap.objs.size) (.ref I) .none) _ _ _
 refine wpAny_bind ?_
 unfold Builtin.List.listItems;refine wpAny_bind (wpAny_seqItems hS rfl (wpAny_pure ?_))
 show wpAny _ _ (updateSeq s.heap.objs.size (fun _=> #[])>>=fun _=>letGo (#[]:Array Value).toList.reverse>>=fun _=>Builtin.List.listExtendWith (.ref s.heap.objs.size) (.ref I) .none) _ _ _
 refine wpAny_bind (wpAny_updateSeq hS rfl (wpAny_bind (wpAny_letGo ?_)))
 have hS2:=Heap.get?_update_self (Obj.mapSeq (fun _=>(#[]:Array Value))) hS rfl
 have up:∀b o,b≠s.heap.objs.size->s.heap.get? b=some o->((s.heap.push {cls:=.type "list",data:=.seq #[]}).update s.heap.objs.size (Obj.mapSeq (fun _=>(#[]:Array Value)))).get? b=some o:=fun b o hb e=>(Heap.get?_update_other _ _ (Ne.symm hb)).trans (Heap.get?_push_of_some _ e)
 refine b3g (A:=A.in1) hh (hv.at fun o e=>up I o (Nat.ne_of_lt lr) e) (hl.at fun o e=>up l o (Nat.ne_of_lt ld) e) (Nat.ne_of_gt lr) (Nat.ne_of_lt ld) nI .none hS2 hn fun g acc c kp hS3 ha=>⟨rfl,?_⟩
 exact done g acc c (fun b o hb e=>kp b o (Nat.ne_of_lt (Heap.lt_size e)) hb (up b o (Nat.ne_of_lt (Heap.lt_size e)) e)) hS3 ha
end
end PySem
namespace L2
open PySem PySem.Spec PyProof.Rows
section
variable{X:Cx}{o:Expr}{to:TE}{p p2 pos pos2:Pos}
def c0x(to:TE):TE:=fun σ H Q=>to σ H fun x H1=>∃l xs,x=.ref l/\H1 l=some (.lst xs)/\∀p,H1 p=none->Q (.ref p) (upd H1 p (.lst xs.reverse))
theorem b6e(hg:Gl X "list")(hm:X.mg "list"=none)(hg2:Gl X "reversed")(hm2:X.mg "reversed"=none)(hc:X.calm=true)(ho:PE X o to)(hp:starEach [o] X.env=[(false,eval o X.env)]):
 PE X (.Call (.Name "list" p) [.Call (.Name "reversed" p2) [o] [] pos2] [] pos) (c0x to):=by
 intro pins s σ H Q I h;refine Call_ (W4 I hg hm boot_list (PyProof.Rows.callWith_type1 ?_ rfl rfl))
 show wpAny _ _ (spliced [(false,eval (.Call (.Name "reversed" p2) [o] [] pos2) X.env)]) _ _ s
 refine Calls.spliced_cons (Call_ (W4 I hg2 hm2 boot_reversed (PyProof.Rows.callWith_type1 ?_ (by rw[hp];rfl) rfl)))
 rw[hp];refine Calls.spliced_cons (thn (ho pins s σ H _ I h) fun v s1 ⟨x,H1,I1,r1,l,xs,ex,hd,q1⟩=>Calls.spliced_nil ?_)
 subst ex;cases r1;obtain⟨z,its,n,vs,e1⟩:=I1.hok l _ hd
 have zl:its.length=xs.length:=(i7.length vs).symm
 have il:s1.heap.IsList l its.toArray:=⟨_,e1,rfl,n,rfl⟩
 have ll:l<s1.heap.objs.size:=Heap.lt_size e1
 refine call_reversed_list il (Calls.spliced_nil ?_)
 refine b0r (I:=s1.heap.objs.size) (l:=l) (items:=its.toArray) (I1.ok.hd hc) ⟨_,Heap.get?_push_size _ rfl,rfl,rfl⟩ (il.at fun o e=>Heap.get?_push_of_some _ e) (Nat.ne_of_lt ll) (by rw[size_toArray,zl];exact z) fun g acc c kp hS ha=>?_
 have kp1:∀b u,s1.heap.get? b=some u->g.get? b=some u:=fun b u e=>kp b u (Nat.ne_of_lt (Heap.lt_size e)) (Heap.get?_push_of_some _ e)
 have gs:s1.heap.objs.size<=(s1.heap.push (revObj l ((its.toArray.size:Int)-1))).objs.size:=by rw[Heap.size_push];exact Nat.le_succ _
 generalize (s1.heap.push (revObj l ((its.toArray.size:Int)-1))).objs.size=S at hS gs⊢;refine⟨.ref S,_,I1.laid (t':=s1.toks) kp1 gs (show p0 X.prog X.w _ _ _ (.lst xs.reverse) from⟨by rw[length_reverse];exact z,its.reverse,c,i7.reverse vs,?_⟩),rfl,q1 S (I1.hok.fresh gs)⟩
 rw[show its.reverse.toArray=acc by apply Array.ext';rw[ha]]
 exact hS
end
def IIt(h:Heap)(it d:Addr)(i n ep:Nat):Prop:=∃f0 f1 k0 v0,(f0=Value.none∨∃a:Nat,f0=rawInt a)∧
 h.get? it=some {cls:=.type "dict_itemiterator",dict:=none,data:=.fields #[f0,f1,.ref d,.int i 0,.int n 0,.int ep 0,k0,v0],slots:= #[]}
variable{h:Heap}{h':Heap}{it:Addr}{d:Addr}{n:Nat}{ep:Nat}
theorem IIt.at{i:Nat}(x:IIt h it d i n ep)(k:∀o,h.get? it=some o->h'.get? it=some o):IIt h' it d i n ep:=by
 obtain⟨a,b,c,e,f,g⟩:=x;exact⟨a,b,c,e,f,k _ g⟩
noncomputable def a1O(e:DictEntry):Obj:={cls:=.type "tuple",data:=.seq #[e.key,e.val]}
variable{a:Addr}{es:Array DictEntry}{Q:Value->Shared->Prop}
section
variable{prog:Program}{w:World}{A:Around}{E:Value->Shared->Prop}{s:Shared}
theorem a9o{Q:Option Obj->Shared->Prop}(h:Q (s.heap.get? a) s):wpAny (model prog w) A (loadIfAlive a) Q E s:=fun _ _ _=>h
theorem b1y{i:Nat}{od:Obj}{Q:Option Value->Shared->Prop}(st:IIt s.heap it d i es.size ep)(e1:s.heap.get? d=some od)(e2:od.data=.dict es ep)(lt:i<es.size)
 (done:∀g:Heap,IIt g it d (i+1) es.size ep->g.get? s.heap.objs.size=some (a1O es[i])->g.objs.size=s.heap.objs.size+1->(∀b o,b≠it->s.heap.get? b=some o->g.get? b=some o)->Q (~~~s.heap.objs.size) {s with heap:=g}):
 wpAny (model prog w) A (pyNext (.ref it)) Q E s:=by
 obtain⟨hp,gn,dr,tk,os⟩:=s;obtain⟨f0,f1,k0,v0,hf,st⟩:=st
 have ty:Shared.TypeIs ⟨hp,gn,dr,tk,os⟩ (.ref it) "dict_itemiterator":=⟨_,st,rfl⟩
 unfold pyNext;refine wpAny_bind (wpAny_attempt (wpAny_callSpecial?_slot (name:=Str.ofString "__next__") ty PySem.F.slot_dict_itemiterator_next (wpAny_call_entry PySem.F.slot_dict_itemiterator_next ty PySem.F.entry_dict_itemiterator_next ?_ (PySem.F.args_dict_itemiterator_next_1 _))))
 refine wpAny_bind (wpAny_pure (wpAny_bind (wpAny_bind (wpAny_bind (wpAny_typeNameOfWhole_itemiter ty (wpAny_pure (wpAny_bind (wpAny_fieldsOf st rfl ?_))))))))
 have ow:Builtin.Dict_items.ownsTuple "dict_itemiterator"=true:=by decide
 simp only[ow,if_true]
 show wpAny _ _ (if(Value.ref d==Value.none)=true then _ else _) _ _ _
 rw[az (show¬(Value.ref d==Value.none)=true from fun z=>nomatch z)]
 refine wpAny_bind (wpAny_pure (wpAny_bind (wpAny_dictEntries e1 e2 ?_)))
 rw[az (by simp)]
 refine wpAny_bind (wpAny_pure (wpAny_bind (wpAny_dictEpoch e1 e2 ?_)))
 rw[az (by simp)]
 refine wpAny_pure ?_
 have nn:¬(i:Int)<0:=by omega
 simp only[nn,if_false,Int.toNat_natCast,Array.getElem?_eq_getElem lt]
 refine wpAny_bind (wpAny_bind (wpAny_typeNameOfWhole_itemiter ty (wpAny_pure (wpAny_bind (wpAny_isOneOf_itemiter ty ?_)))))
 show wpAny _ _ (setField (.ref it) 3 (rawInt ((i:Int)+1))>>=_) _ _ _
 refine wpAny_bind (wpAny_setField_rec st (by simp) fun g1 q1 sb1=>?_)
 replace sb1:Heap.SameBut it hp g1:=sb1
 replace q1:g1.get? it=some {cls:=.type "dict_itemiterator",dict:=none,data:=.fields #[f0,f1,.ref d,.int ((i+1:Nat):Int) 0,.int es.size 0,.int ep 0,k0,v0],slots:= #[]}:=by
  have z:((i+1:Nat):Int)=(i:Int)+1:=by omega
  rw[z];simpa [rawInt] using q1
 have ty1:Shared.TypeIs ⟨g1,gn,dr,tk,os⟩ (.ref it) "dict_itemiterator":=⟨_,q1,rfl⟩
 refine wpAny_bind (wpAny_holding (wpAny_bind (wpAny_isOneOf_itemiter ty1 (wpAny_bind (wpAny_isOneOf_itemiter ty1 ?_)))))
 show wpAny _ _ (Builtin.Dict_items.pairFromOwner (.ref it) 6 es[i].key es[i].val) _ _ _
 unfold Builtin.Dict_items.pairFromOwner;refine wpAny_bind (wpAny_newTuple ?_)
 have il:it<hp.objs.size:=Heap.lt_size st
 have z1:g1.objs.size=hp.objs.size:=sb1.1
 have q2:=Heap.get?_push_of_some (a1O es[i]) q1
 have t2:(g1.push (a1O es[i])).get? hp.objs.size=some (a1O es[i]):=by rw[←z1];exact Heap.get?_push_size _ rfl
 have z2:(g1.push (a1O es[i])).objs.size=hp.objs.size+1:=by rw[Heap.size_push,z1]
 have k2:∀b o,b≠it->hp.get? b=some o->(g1.push (a1O es[i])).get? b=some o:=fun b o hb e=>Heap.get?_push_of_some _ ((sb1.2 b hb).trans e)
 show wpAny _ _ (Builtin.Dict_items.ownedTupleIsFree (.ref it)>>=_) _ _ ⟨g1.push (a1O es[i]),gn,dr,tk,os⟩
 rw[z1];generalize g1.push (a1O es[i])=g2 at q2 t2 z2 k2⊢
 have fin:∀g3:Heap,IIt g3 it d (i+1) es.size ep->Heap.SameBut it g2 g3->Q (~~~hp.objs.size) ⟨g3,gn,dr,tk,os⟩:=fun g3 c3 sb3=>
  done g3 c3 ((sb3.2 _ (Nat.ne_of_gt il)).trans t2) (by show g3.objs.size=hp.objs.size+1;rw[sb3.1,z2]) fun b o hb e=>(sb3.2 b hb).trans (k2 b o hb e)
 have free:wpAny (model prog w) A.in1 (Builtin.Dict_items.ownedTupleIsFree (.ref it)) (fun b s'=>(b=true/\s'=⟨g2,gn,dr,tk,os⟩)∨(b=false/\∃g3,s'=⟨g3,gn,dr,tk,os⟩/\IIt g3 it d (i+1) es.size ep/\Heap.SameBut it g2 g3)) (fun _ _=>False) ⟨g2,gn,dr,tk,os⟩:=by
  unfold Builtin.Dict_items.ownedTupleIsFree
  rcases hf with rfl|⟨a,rfl⟩
  · exact wpAny_bind (wpAny_field q2 rfl (x:=.none) rfl (wpAny_pure (.inl ⟨rfl,rfl⟩)))
  · refine wpAny_bind (wpAny_field q2 rfl (x:=rawInt a) rfl ?_)
    show wpAny _ _ (loadIfAlive ((a:Int).toNat)>>=_) _ _ _
    refine wpAny_bind (a9o ?_)
    cases ha:g2.get? ((a:Int).toNat) with
    |none=>
     exact wpAny_pure (.inl ⟨rfl,rfl⟩)
    |some oa=>
     simp only[Option.isNone_some,Bool.false_eq_true,if_false];refine wpAny_bind (wpAny_field q2 rfl (x:=f1) rfl ?_)
     refine wpAny_ite_split (fun _=>?_) fun _=>wpAny_pure (.inr ⟨rfl,g2,rfl,⟨_,_,_,_,.inr ⟨a,rfl⟩,q2⟩,Heap.SameBut.refl _ _⟩)
     exact wpAny_bind (wpAny_setField_rec q2 (by simp) fun g3 q3 sb3=>wpAny_pure (.inr ⟨rfl,g3,rfl,⟨_,_,_,_,.inr ⟨a,rfl⟩,q3⟩,sb3⟩))
 refine wpAny_bind (wpAny_mono free (fun b s' hb=>?_) fun _ _ x=>x.elim)
 rcases hb with⟨rfl,rfl⟩|⟨rfl,g3,rfl,c3,sb3⟩
 · simp only[if_true];refine wpAny_bind (wpAny_field q2 rfl (x:=k0) rfl (wpAny_bind (wpAny_field q2 rfl (x:=v0) rfl ?_)))
   refine wpAny_bind (wpAny_setField_rec q2 (by simp) fun g3 q3 sb3=>wpAny_bind (wpAny_setField_rec q3 (by simp) fun g4 q4 sb4=>wpAny_bind (wpAny_setField_rec q4 (by simp) fun g5 q5 sb5=>wpAny_bind (wpAny_setField_rec q5 (by simp) fun g6 q6 sb6=>?_))))
   replace sb3:Heap.SameBut it g2 g3:=sb3
   replace sb4:Heap.SameBut it g3 g4:=sb4
   replace sb5:Heap.SameBut it g4 g5:=sb5
   replace sb6:Heap.SameBut it g5 g6:=sb6
   refine wpAny_bind (wpAny_letGo (wpAny_pure (wpAny_pure ⟨_,rfl,wpAny_pure ?_⟩)))
   exact fin g6 ⟨rawInt hp.objs.size,_,_,_,.inr ⟨_,rfl⟩,q6⟩ ⟨by rw[sb6.1,sb5.1,sb4.1,sb3.1],fun b hb=>(sb6.2 b hb).trans ((sb5.2 b hb).trans ((sb4.2 b hb).trans (sb3.2 b hb)))⟩
 · simp only[Bool.false_eq_true,if_false];exact wpAny_pure (wpAny_pure ⟨_,rfl,wpAny_pure (fin g3 c3 sb3)⟩)
theorem b3Z{i:Nat}{od:Obj}{Q:Option Value->Shared->Prop}(hh:A.handled=none)(st:IIt s.heap it d i es.size ep)(e1:s.heap.get? d=some od)(e2:od.data=.dict es ep)(ge:es.size<=i)
 (done:∀g:Heap,Heap.ExtBut it s.heap g->Q none {s with heap:=g}):wpAny (model prog w) A (pyNext (.ref it)) Q E s:=by
 obtain⟨f0,f1,k0,v0,hf,st⟩:=st
 have ty:s.TypeIs (.ref it) "dict_itemiterator":=⟨_,st,rfl⟩
 unfold pyNext;refine wpAny_bind (wpAny_attempt (wpAny_callSpecial?_slot (name:=Str.ofString "__next__") ty PySem.F.slot_dict_itemiterator_next (wpAny_call_entry PySem.F.slot_dict_itemiterator_next ty PySem.F.entry_dict_itemiterator_next ?_ (PySem.F.args_dict_itemiterator_next_1 _))))
 refine wpAny_bind (wpAny_pure (wpAny_bind (wpAny_bind (wpAny_bind (wpAny_typeNameOfWhole_itemiter ty (wpAny_pure (wpAny_bind (wpAny_fieldsOf st rfl ?_))))))))
 have ow:Builtin.Dict_items.ownsTuple "dict_itemiterator"=true:=by decide
 simp only[ow,if_true]
 show wpAny _ _ (if(Value.ref d==Value.none)=true then _ else _) _ _ _
 rw[az (show¬(Value.ref d==Value.none)=true from fun z=>nomatch z)]
 refine wpAny_bind (wpAny_pure (wpAny_bind (wpAny_dictEntries e1 e2 ?_)))
 rw[az (by simp)]
 refine wpAny_bind (wpAny_pure (wpAny_bind (wpAny_dictEpoch e1 e2 ?_)))
 rw[az (by simp)]
 refine wpAny_pure ?_
 have nn:¬(i:Int)<0:=by omega
 simp only[nn,if_false,Int.toNat_natCast,Array.getElem?_eq_none ge]
 refine wpAny_bind (wpAny_bind (wpAny_typeNameOfWhole_itemiter ty (wpAny_pure ?_)))
 show wpAny _ _ (setField (.ref it) 2 .none>>=_) _ _ s
 refine wpAny_bind (wpAny_setField st rfl (by simp) ?_)
 show wpAny _ _ (newExc (.type "StopIteration") []>>=_) _ _ _
 unfold newExc;refine wpAny_bind (wpAny_bind (wpAny_newTuple (wpAny_bind (wpAny_pure (a:=Value.none) ?_)) (by decide)))
 refine wpAny_bind (wpAny_alloc (wpAny_pure (wpAny_raiseNew_none hh ?_)))
 refine wpAny_bind (wpAny_isInstance (T:="StopIteration") (b:=true) ⟨_,Heap.get?_push_size _ rfl,rfl⟩ isSubtype_stop ?_)
 exact wpAny_pure (done _ (((Heap.SameBut.update _ _ _).extBut.push _).push _))
theorem b1x{v:Addr}{od:Obj}(hv:s.heap.IsItemsView v d)(e1:s.heap.get? d=some od)(e2:od.data=.dict es ep)
 (done:∀g:Heap,IIt g s.heap.objs.size d 0 es.size ep->(∀b o,s.heap.get? b=some o->g.get? b=some o)->Q (.ref s.heap.objs.size) {s with heap:=g}):wpAny (model prog w) A (pyIter (.ref v)) Q E s:=by
 obtain⟨ov,a1,a2,a3⟩:=id hv;refine wpAny_pyIter_slot hv.typeIs PySem.F.slot_dict_items_iter (wpAny_call_entry PySem.F.slot_dict_items_iter hv.typeIs PySem.F.entry_dict_items_iter ?_ (PySem.F.args_dict_items_iter_1 _))
 unfold Builtin.«dict_items.__iter__»;refine wpAny_bind (wpAny_pure (wpAny_bind ?_))
 unfold Builtin.Dict_items.dictOf;refine wpAny_bind (wpAny_field a1 a3 (x:=.ref d) rfl (wpAny_pure (wpAny_bind ?_)))
 unfold Builtin.Dict_items.newIterator;refine wpAny_bind (wpAny_dictEntries e1 e2 (wpAny_bind (wpAny_dictEpoch e1 e2 ?_)))
 have ow:Builtin.Dict_items.ownsTuple "dict_itemiterator"=true:=by decide
 simp only[ow,if_true]
 refine wpAny_newObj_type (wpAny_pure ⟨_,rfl,"dict_itemiterator",_,⟨_,Heap.get?_push_size _ rfl,rfl⟩,PySem.F.slot_dict_itemiterator_next.lookup,?_⟩)
  (by simp only[sizeOk,Builtin.Dict_items.ownedTupleFields,size_toArray,ao,length_cons,length_nil,sizeLine_eq];omega)
 exact done _ ⟨.none,.bool false,.none,.none,.inl rfl,Heap.get?_push_size _ rfl⟩ fun b o e=>Heap.get?_push_of_some _ e
end
section
variable{prog:Program}{w:World}{A:Around}{E:Value->Shared->Prop}{s:Shared}
theorem a6X(d:Addr)(nd:(d==sysModules)=false):MeetsIn prog w (Builtin.«dict.items» ⟨[.ref d],[]⟩) (fun _ R s=>s.TypeIs (.ref d) "dict"/\R (.ok (.ret (.ref s.heap.objs.size))) {s with heap:=s.heap.push {cls:=.type "dict_items",data:=.fields #[.ref d]}}):=
 .of_wp fun A R s ⟨t,h⟩=>by
  unfold Builtin.«dict.items»;refine wpAny_bind ?_
  unfold Builtin.Dict.noArgs;refine wpAny_bind (wpAny_notOrdered_dict t ?_)
  show wpAny _ _ (pure d) _ _ s
  refine wpAny_pure ?_
  show wpAny _ _ (Builtin.Dict.showsAll d>>=_) _ _ s
  unfold Builtin.Dict.showsAll;rw[az (by rw[nd];exact bv)]
  exact wpAny_bind (wpAny_pure (wpAny_bind (wpAny_newObj_type (wpAny_pure ⟨_,rfl,h⟩))))
theorem b9F(ty:s.TypeIs (.ref d) "dict")(nd:(d==sysModules)=false)
 (h:Q (.ref s.heap.objs.size) {s with heap:=s.heap.push {cls:=.type "dict_items",data:=.fields #[.ref d]}}):wpAny (model prog w) A (call (.builtin "dict.items") [.ref d]) Q E s:=
 call_meetsIn PySem.F.slot_dict_items ty PySem.F.entry_dict_items (PySem.F.args_dict_items_1 _) (a6X d nd) ⟨ty,h⟩
end
def DIt(H:Hp)(d:Addr)(kvs:List (V×V)):Prop:=(∃l,H d=some (.dK l)/\kvs=l.map fun p=>(kV p.1,p.2))∨
 ∃l,H d=some (.dT l)/\Paired (fun p q=>(∃b,q.1=V.ref b/\H b=some (.tup (p.1.map kV)))/\p.2=q.2) l kvs
abbrev a4o:List DictEntry->List (V×V)->Prop:=Paired fun e q=>f6 q.1 e.key/\f6 q.2 e.val
variable{u:Value}
theorem a9k{k:Key}(h:a2Z k u=true):f6 (kV k) u:=by
 rcases v5 h with⟨i,t,rfl,rfl⟩|⟨x,t,rfl,rfl⟩
 · exact⟨t,rfl⟩
 · exact⟨t,rfl⟩
theorem Paired.len{α β:Type}{F:α->β->Prop}:∀{l:List α} {l':List β},Paired F l l'->l.length=l'.length
 |_,_,.nil=>rfl
 |_,_,.cons _ t=>congrArg (· +1) (Paired.len t)
theorem b5c{P:Program}{w:World}:∀{es:List DictEntry} {vs:List (Key×Value)} {l:List (Key×V)},Pairs (n9 P w) es vs->KV l vs->a4o es (l.map fun p=>(kV p.1,p.2))
 |_,_,[],h,.nil=>by cases h;exact .nil
 | _,_,(k,v)::l,h,.cons ⟨q1,q2⟩ t=>by
  cases h with
  |cons h1 h2 h3=>
   refine .cons ⟨?_,?_⟩ (b5c h3 t)
   · exact a9k (by rw[show k=_ from q1];exact h1)
   · rw[h2];exact q2
theorem b5b{P:Program}{w:World}{H:Hp}:∀{xs:List (List Key×Addr×Value)} {l:List (List Key×V)},Paired (fun(p:List Key×V) (q:List Key×Addr×Value)=>p.1=q.1/\H q.2.1=some (.tup (p.1.map kV))/\f6 p.2 q.2.2) l xs→
 ∃kvs,a4o (xs.map (entryOfKey (tupleKind (n9 P w)))) kvs/\Paired (fun p q=>(∃b,q.1=V.ref b/\H b=some (.tup (p.1.map kV)))/\p.2=q.2) l kvs
 |_,_,.nil=>⟨[],.nil,.nil⟩
 |_,_,.cons (a:=p) (b:=x) ⟨e1,e2,e3⟩ t=>by
  obtain⟨kvs,r1,r2⟩:=b5b (P:=P) (w:=w) t;exact⟨(.ref x.2.1,p.2)::kvs,.cons ⟨rfl,e3⟩ r1,.cons ⟨⟨_,rfl,e2⟩,rfl⟩ r2⟩
variable{P:Program}{w:World}
section
variable{X:Cx}{pins:List (Addr×Obj)}{σ:St}{H:Hp}{s:Shared}{od:Obj}
def b7S:HO->Prop
 |.dK _=>True
 |.dT _=>True
 |_=>False
theorem Inv.freeze{u:HO}(I:Inv X pins σ H s)(hd:H d=some u)(hu:b7S u):∃od es ep kvs,s.heap.get? d=some od/\od.ExactDict/\od.data=.dict es ep/\(d==sysModules)=false/\a4o es.toList kvs/\DIt H d kvs/\(∀o u,X.H₀ d≠some (.frz o u))/\Inv X pins σ (upd H d (.frz od u)) s:=by
 have nf:∀o' u',X.H₀ d≠some (.frz o' u'):=fun o' u' q=>by
  have:=I.base.frzs d o' u' q
  rw[hd] at this;cases this;exact hu
 cases u with
 |dK l=>
  obtain⟨z,nd,vs,kv,od,es,ep,e1,ex,e2,k3,pr,k5⟩:=id (I.hok d _ hd);exact⟨od,es,ep,_,e1,ex,e2,nd,b5c pr kv,.inl ⟨l,hd,rfl⟩,nf,I.write (t':=s.toks) (h':=s.heap) (by rw[hd];exact trivial) (.inl rfl) (fun _ _ _ q=>q) ⟨_,e1⟩ ⟨e1,z,nd,vs,kv,od,es,ep,e1,ex,e2,k3,pr,k5⟩⟩
 |dT l=>
  obtain⟨z,nd,xs,pr,od,es,ep,e1,ex,e2,e3,k5⟩:=id (I.hok d _ hd);obtain⟨kvs,r1,r2⟩:=b5b (P:=X.prog) (w:=X.w) pr;rw[←e3] at r1;refine⟨od,es,ep,kvs,e1,ex,e2,nd,r1,.inr ⟨l,hd,r2⟩,nf,I.write (t':=s.toks) (h':=s.heap) (by rw[hd];exact trivial) (.inl rfl) (fun _ _ _ q=>q) ⟨_,e1⟩ ⟨e1,z,nd,xs,Paired.mapP pr fun p q z=>⟨z.1,?_,z.2.2⟩,od,es,ep,e1,ex,e2,e3,k5⟩⟩
  rw[c9 (fun y=>by have:=z.2.1;rw[y,hd] at this;cases this)]
  exact z.2.1
 |_=>exact hu.elim
theorem p0.thaw{x u:HO}(hd:H d=some (.frz od u)):∀{o:HO},p0 P w H h a o->p0 P w (upd H d x) h a o:=by
 intro o
 have ne:∀{b:Addr} {v:HO},H b=some v->(∀o' u',v≠.frz o' u')->upd H d x b=some v:=fun{b v} e n=>by
  have:b≠d:=fun z=>by
   rw[z,hd] at e;exact n _ _ (ax e).symm
  rw[c9 this];exact e
 induction o with
 |dT kvs=>
  rintro⟨z,nd,xs,pr,r⟩;refine⟨z,nd,xs,?_,r⟩
  clear r z
  induction pr with
  |nil=>exact .nil
  |cons q t ih=>exact .cons ⟨q.1,ne q.2.1 (fun _ _=>nofun),q.2.2⟩ ih
 |ins C dx fs=>rintro⟨e,r⟩;exact⟨ne e (fun _ _=>nofun),r⟩
 |frz o' u' ih=>rintro⟨e,r⟩;exact⟨e,ih r⟩
 |_=>exact id
theorem Inv.thaw{u:HO}(I:Inv X pins σ H s)(hd:H d=some (.frz od u))(h0:∀o u,X.H₀ d≠some (.frz o u)):Inv X pins σ (upd H d u) s:=by
 have nd:∀{b:Addr},H b=none->upd H d u b=none:=fun{b} e=>by
  rw[c9 (fun z=>by rw[z,hd] at e;cases e)];exact e
 have ne:∀{b:Addr} {v:HO},H b=some v->(∀o' u',v≠.frz o' u')->upd H d u b=some v:=fun{b v} e n=>by
  rw[c9 (fun z=>by
   rw[z,hd] at e;exact n _ _ (ax e).symm)];exact e
 refine⟨I.ok,I.os,I.bare,⟨I.base.keep,I.base.slot,fun b o e n hx=>nd (I.base.free b o e n hx),I.base.there,fun b xs e=>ne (I.base.tups b xs e) (fun _ _=>nofun),fun b o u e=>?_,fun b ps e=>?_⟩,I.loc,I.cell,nd I.free,fun x c e=>nd (I.freeC x c e),fun p hp=>?_,fun a o e=>?_,I.len⟩
 · rw[c9 (fun z=>h0 o u (by rw[←z];exact e))]
   exact I.base.frzs b o u e
 · obtain⟨m,e⟩:=I.base.tbls b ps e;exact⟨m,ne e (fun _ _=>nofun)⟩
 · obtain⟨a1,a2,a3⟩:=I.pin p hp;exact⟨a1,nd a2,a3⟩
 · by_cases z:a=d
   · subst z;rw[b8] at e;cases e;exact p0.thaw hd (I.hok a _ hd).2
   · rw[c9 z] at e;exact p0.thaw hd (I.hok a o e)
end
def Itd(d:Addr)(od:Obj)(u:HO)(kvs:List (V×V)):It:=⟨fun i H=>H d=some (.frz od u)/\∃p,kvs[i]? =some p,fun i H v H'=>∃T p,H T=none/\v=.ref T/\kvs[i]? =some p/\H'=upd H T (.tup [p.1,p.2]),fun i H=>H d=some (.frz od u)/\kvs.length<=i⟩
theorem a4o.at{es:List DictEntry}{kvs:List (V×V)}(r:a4o es kvs):∀{i:Nat} {p:V×V},kvs[i]? =some p->∃e,es[i]? =some e/\f6 p.1 e.key/\f6 p.2 e.val:=by
 induction r with
 |nil=>intro i p h;cases i<;>cases h
 | @cons a b as bs h t ih=>
  intro i p e
  cases i with
  |zero=>cases ax e;exact⟨a,rfl,h⟩
  |succ i=>exact ih e
variable{prog:Program}{A:Around}{elts:List Expr}{pos:Pos}
theorem b6N{E:Value->Shared->Prop}{s:Shared}{k:Nat}{i:Nat}{Q:Unit->Shared->Prop}(st:IIt s.heap it d i n ep)
 (hQ:∀h',IIt h' it d i n ep->(∀b o,b≠it->s.heap.get? b=some o->h'.get? b=some o)->Q () {s with heap:=h'}):wpAny (model prog w) A (letOwnedTupleGo (.Tuple elts k pos) (.ref it) (.ref a)) Q E s:=by
 have st0:=st;obtain⟨f0,f1,k0,v0,hf,st⟩:=st;unfold letOwnedTupleGo;refine wpAny_bind (wpAny_load st ?_)
 show wpAny _ _ (if(["enumerate","zip","dict_itemiterator","dict_reverseitemiterator","odict_iterator","itertools.zip_longest","itertools.pairwise"].contains "dict_itemiterator"&&(#[f0,f1,.ref d,.int i 0,.int n 0,.int ep 0,k0,v0]:Array Value)[0]? ==some (rawInt a))=true then _ else _) Q E s
 split
 · refine wpAny_bind (wpAny_rule ?_)
   show wpAny _ _ (setField (.ref it) 0 .none) Q E s
   exact wpAny_setField_rec st (by simp) fun h' he' hs'=>hQ h' ⟨.none,f1,k0,v0,.inl rfl,he'⟩ fun b o hb e=>(hs'.2 b hb).trans e
 · exact wpAny_pure (hQ s.heap st0 fun _ _ _ e=>e)
variable{K:PySem.W.Frag}
theorem a6H{k:Nat}{od:Obj}{u:HO}{kvs:List (V×V)}(rw':a4o es.toList kvs)(hne:d≠it)(hat:od.data=.dict es ep):
 Turn P w K (.Tuple elts k pos) (Itd d od u kvs) [it] it (fun i h=>IIt h it d i es.size ep) where
 mem:=by simp
 obj:=fun i h st b hb=>by
  obtain⟨f0,f1,k0,v0,hf,he⟩:=st;obtain rfl:=aP.mp hb;exact⟨_,he,fun v q=>by have q':Data.fields _=Data.cell v:=q;cases q'⟩
 keep:=fun i h h' st k=>st.at fun o e=>k it (by simp) o e
 item:=by
  intro X hP hw hK hc i pins s σ H E I hf st hg;subst hP hw hK;obtain⟨hd,p,hp⟩:=hg;obtain⟨e,he,rk,rv⟩:=rw'.at hp
  have lt:i<es.size:=by
   have:=(ac.mp he).1
   simpa using this
  have hlt:it<s.heap.objs.size:=by obtain⟨_,_,_,_,_,q⟩:=st;exact Heap.lt_size q
  have ee:es[i]=e:=by
   have:=(ac.mp he).2
   simpa using this
  refine b1y st (I.hok d _ hd).1 hat lt fun g st' hT hsz hk=>⟨_,rfl,b6N (s:={s with heap:=g}) st' fun h3 st3 hk3=>?_⟩
  have kk:∀b o,b∉[it]->s.heap.get? b=some o->h3.get? b=some o:=fun b o hb q=>by
   have n1:b≠it:=fun w=>hb (by simp[w])
   exact hk3 b o n1 (hk b o n1 q)
  have hT3:=hk3 _ _ (Nat.ne_of_gt hlt) hT;rw[ee] at hT3
  have I1:Inv X pins σ (upd H s.heap.objs.size (.tup [p.1,p.2])) {s with heap:=h3,toks:=s.toks}:=
   I.turnedN (fp:=[it]) hf kk (ai _) ⟨by show 2<=sizeLine;decide,[e.key,e.val],.cons rk (.cons rv .nil),_,hT3,rfl,rfl,_,rfl⟩
  refine⟨.ref s.heap.objs.size,_,I1,rfl,⟨s.heap.objs.size,p,I.hok.fresh (ai _),rfl,hp,rfl⟩,st3,fun b hb=>?_⟩
  obtain rfl:=aP.mp hb;rw[c9 (Nat.ne_of_lt hlt)];exact(hf b (by simp)).1
 done:=by
  intro X hP hw hK hc i pins s σ H E I hf st hg;subst hP hw hK;have hl:=Paired.len rw';rw[Array.length_toList] at hl;refine b3Z (I.ok.hd hc) st (I.hok d _ hg.1).1 hat (by have:=hg.2;omega) fun h' eb=>⟨rfl,I.turnedF (t':=s.toks) hf fun b o hb q=>eb b o (fun z=>hb (by simp[z])) q⟩
 self:=fun A i s Q E st h=>by
  obtain⟨f0,f1,k0,v0,hf,he⟩:=st
  have ty:s.TypeIs (.ref it) "dict_itemiterator":=⟨_,he,rfl⟩
  refine wpAny_pyIter_slot ty PySem.F.slot_dict_itemiterator_iter ?_
  refine wpAny_call_entry PySem.F.slot_dict_itemiterator_iter ty PySem.W.kcp_entry ?_ (PySem.F.args_dict_itemiterator_iter_1 _)
  exact wpAny_pure ⟨_,rfl,_,_,ty,PySem.F.slot_dict_itemiterator_next.lookup,h⟩
section
variable{X:Cx}{k:Nat}{tpos:Pos}{o:Expr}{to:TE}{apos cpos:Pos}
def a7j(H₀:Hp)(to:TE):TI:=fun σ H R=>to σ H fun v H1=>∃d u,v=.ref d/\H1 d=some u/\b7S u/\∀od kvs,DIt H1 d kvs->(∀o u,H₀ d≠some (.frz o u))->R (Itd d od u kvs) (upd H1 d (.frz od u))
theorem b0J(ho:PE X o to)(hbase:attributeBase o "items" X.env (eval o X.env)=eval o X.env:=by rfl)(hline:(apos.endLine==cpos.line)=true:=by rfl):
 PI X (.Tuple elts k tpos) (.Call (.Attribute o "items" apos) [] [] cpos) (a7j X.H₀ to):=by
 intro pins s σ H R I h;refine wpAny_Call_method0_late hbase hline (thn (ho pins s σ H _ I h) fun v s1 zz=>?_)
 obtain⟨x,H1,I1,r1,d,u,ex,hd,hu,q1⟩:=zz;subst ex;cases r1;obtain⟨od,es,ep,kvs,e1,exd,e2,nd,rw',di,h0,I2⟩:=I1.freeze hd hu
 have ty:s1.TypeIs (.ref d) "dict":=⟨od,e1,exd.1⟩
 have hlt:d<s1.heap.objs.size:=Heap.lt_size e1
 refine⟨"dict","dict.items",PySem.F.plainAttrs_dict,PySem.F.slot_dict_items,PySem.F.type_dict_items,ty,fun a e=>?_,Calls.callWith_builtin rfl (PySem.evalArgs_none (b9F ty nd ?_))⟩
 · cases e;exact⟨od,e1,exd.2.1⟩
 have hS:(s1.heap.push {cls:=.type "dict_items",data:=.fields #[.ref d]}).objs.size=s1.heap.objs.size+1:=Heap.size_push ..
 refine b1x ⟨_,Heap.get?_push_size _ rfl,rfl,rfl⟩ (Heap.get?_push_of_some _ e1) e2 fun g st kp=>?_
 refine⟨(s1.heap.push {cls:=.type "dict_items",data:=.fields #[.ref d]}).objs.size,[(s1.heap.push {cls:=.type "dict_items",data:=.fields #[.ref d]}).objs.size],_,_,upd H1 d (.frz od u),rfl,I2.kept (t':=s1.toks) (fun b u e=>kp b u (Heap.get?_push_of_some _ e)),a6H rw' (Nat.ne_of_lt (by rw[hS];exact Nat.lt_succ_of_lt hlt)) e2,st,fun b hb=>?_,q1 od kvs di h0⟩
 obtain rfl:=aP.mp hb;exact I2.fpOk (by rw[hS];omega) (I2.hok.fresh (by rw[hS];omega))
end
variable{e:Expr}{st:Stmt}
section
variable{X:Cx}{elt iter tg:Expr}{ifs:List Expr}{scope:Scope}{own frees:List Str}{js:List Nat}{wi:TI}{g:TG}{tc:TT}{te:TE}
def a7y(H₀:Hp)(Q:Hp->Prop):Hp->Prop:=fun H=>∃d od u,H d=some (.frz od u)/\(∀o u,H₀ d≠some (.frz o u))/\Q (upd H d u)
noncomputable def b7Z(H₀:Hp)(t:TE):TE:=fun σ H Q=>t σ H fun v=>a7y H₀ (Q v)
theorem b3z{t:TE}(h:PE X e t):PE X e (b7Z X.H₀ t):=by
 intro pins s σ H Q I q;refine thn (h pins s σ H _ I q) fun v s1 zz=>?_
 obtain⟨x,H1,I1,r1,d,od,u,hd,h0,q1⟩:=zz;exact⟨x,_,I1.thaw hd h0,r1,q1⟩
noncomputable def b8l(H₀:Hp)(t:TS):TS:=fun D=>t {D with nx:=fun σ=>a7y H₀ (D.nx σ)}
theorem b3n{t:TS}(h:PS X st t):PS X st (b8l X.H₀ t):=by
 intro pins s σ H D I q;refine thn (h pins s σ H _ I q) fun f s1 h1=>?_
 cases f with
 |next=>
  obtain⟨σ',H',I1,d,od,u,hd,h0,q1⟩:=h1;exact⟨σ',_,I1.thaw hd h0,q1⟩
 |brk=>exact h1
 |cont=>exact h1
 |ret u=>exact h1
end
noncomputable def Itn(hi:Int)(n:Nat):It:=⟨fun i _=>i<n,fun i H x H'=>H'=H/\x=.int (hi-i),fun i _=>n<=i⟩
variable{tg:Expr}
theorem a8J(it:Addr)(hi:Int)(n:Nat):Turn P w K tg (Itn hi n) [it] it (fun i h=>IsRangeIter h it (hi+(i:Nat)*(-1)) ((n:Int)-(i:Nat)) (-1)) where
 mem:=by simp
 obj:=fun i h st b hb=>by
  obtain rfl:=aP.mp hb
  exact⟨_,st,fun v z=>by
   have z':Data.fields _=Data.cell v:=z
   cases z'⟩
 keep:=fun i h h' st k=>k it (by simp) _ st
 item:=by
  intro X hP hw hK hc i pins s σ H E I hf st hg;subst hP hw hK;obtain⟨f0,f1,f2,f3,f4,f5⟩:=hf it (by simp)
  have W:=Walks.range (prog:=X.prog) (w:=X.w) (I.ok.hd hc) it hi (-1) n;refine W.item i s _ _ hg st fun v h' tk hv st' kk=>?_
  obtain⟨t,rfl⟩:=hv
  have I1:Inv X pins σ H {s with heap:=h',toks:=tk}:=I.turned (fun b o hb e=>kk b o (by simpa using hb) e) f0 f1 f3 f4 f5
  refine⟨_,rfl,a6m (s:={s with heap:=h',toks:=tk}) (n:="range_iterator") st' rfl rfl (by decide) ⟨.int (hi-i),H,I1,⟨t,?_⟩,⟨rfl,rfl⟩,st',fun b hb=>(hf b hb).1⟩⟩
  rw[show hi-(i:Int)=hi+(i:Nat)*(-1) by omega]
 done:=by
  intro X hP hw hK hc i pins s σ H E I hf st hg;subst hP hw hK;obtain⟨f0,f1,f2,f3,f4,f5⟩:=hf it (by simp)
  exact wpAny_pyNext_range_end (I.ok.hd hc) st (by have:n<=i:=hg;omega) fun h' eb=>⟨rfl,I.turned (t':=s.toks) (fun b o hb e=>eb b o hb e) f0 f1 f3 f4 f5⟩
 self:=fun _ _ _ _ _ st h=>wpAny_pyIter_rangeiter st h
variable{c:Expr}{ta:TA}{p:Pos}
section
variable{X:Cx}
def b8V(ta:TA):TI:=fun σ H R=>ta σ H fun vs H1=>∃i j:Int,vs=[.int i,.int j,.int (-1)]/\(-(2^62)<=i/\i<2^62/\ -(2^62)<=j/\j<2^62)/\R (Itn i (i-j).toNat) H1
theorem b3w{a b:Expr}(hg:Gl X "range")(hm:X.mg "range"=none)(ha:PA X [a,b,c] ta)(hs:starEach [a,b,c] X.env=(false,eval a X.env)::starEach [b,c] X.env)(hs2:(backTo pos (starEach [b,c] X.env)).any (·.1)=false):
 PI X tg (.Call (.Name "range" p) [a,b,c] [] pos) (b8V ta):=by
 intro pins s σ H R I h;refine Call_ (W4 I hg hm boot_range (PyProof.Rows.callWith_type1 (thn (ha pos pins s σ H _ I h) fun us s1 zz=>?_) hs hs2))
 obtain⟨vs,H1,I1,r1,q1⟩:=zz;obtain⟨i,j,e,⟨q1,q2,q3,q4⟩,q⟩:=q1;subst e
 cases r1 with
 | cons r rr=>
  cases rr with
  | cons r' rr=>
   cases rr with
   | cons r3 rr=>
    cases rr;obtain⟨t,rfl⟩:=r;obtain⟨t',rfl⟩:=r';obtain⟨t3,rfl⟩:=r3;refine call_range_3 (by decide) ?_ (.inl (PyProof.noPylong_small (by decide)))
    refine wpAny_pyIter_range (IsRange.new ..) (PySem.W.small_down q1 q2 q3 q4) ?_
    have I2:Inv X pins σ H1 {s1 with heap:=s1.heap.push {cls:=.type "range",data:=.fields #[.int i t,.int j t',.int (-1) t3]},toks:=s1.toks}:=I1.kept fun b o e=>Heap.get?_push_of_some _ e
    refine⟨(s1.heap.push {cls:=.type "range",data:=.fields #[.int i t,.int j t',.int (-1) t3]}).objs.size,[(s1.heap.push {cls:=.type "range",data:=.fields #[.int i t,.int j t',.int (-1) t3]}).objs.size],_,_,H1,rfl,
     I2.kept (t':=s1.toks) fun b o e=>Heap.get?_push_of_some _ e,a8J _ i (i-j).toNat,?_,fun b hb=>?_,q⟩
    · have e1:i+((0:Nat):Int)*(-1)=i:=by simp
      have e2:(((i-j).toNat:Nat):Int)-((0:Nat):Int)=Builtin.Range.rangeSize i j (-1):=by rw[PySem.W.rangeSize_downNat];simp
      show IsRangeIter _ _ (i+((0:Nat):Int)*(-1)) ((((i-j).toNat:Nat):Int)-((0:Nat):Int)) (-1)
      rw[e1,e2];exact Heap.get?_push_size _ rfl
    · obtain rfl:=aP.mp hb;exact I2.fpOk (ai _) (I2.hok.fresh (ai _))
end
variable{xs:List (List Key×Addr×Value)}{items:Array Value}
section
abbrev TK(prog:Program)(w:World):=tupleKind (n9 prog w)
theorem a2j{k:List Key}(x:(TK prog w).is h k a)(f:∀o,h.get? a=some o->h'.get? a=some o):(TK prog w).is h' k a:=by
 obtain⟨o,its,n,h1,r⟩:=x;exact⟨o,its,n,f o h1,r⟩
theorem a2x(x:h.DictOfH (TK prog w) d xs)(f:∀b o,b=d∨(∃p∈xs,b=p.2.1)->h.get? b=some o->h'.get? b=some o):h'.DictOfH (TK prog w) d xs:=by
 obtain⟨o,es,ep,h1,h2,h3,h4,h5,h6⟩:=x;exact⟨o,es,ep,f _ _ (.inl rfl) h1,h2,h3,h4,fun p hp=>a2j (h5 p hp) fun o e=>f _ o (.inr ⟨p,hp,rfl⟩) e,h6⟩
theorem b3M(nd:(xs.map (·.1)).Nodup){i:Nat}(hi:i<xs.length)(v:Value):storedH (xs.take i) xs[i].1 xs[i].2.1 xs[i].2.2=xs.take (i+1):=by
 rw[storedH_new (atKey_none_of_get fun j p e=>?_),take_succ_eq_append_getElem hi]
 obtain⟨hj,e2⟩:=ac.mp e
 rw[aM] at hj;rw[List.getElem_take] at e2
 have hj':j<xs.length:=by omega
 have:=(getElem_inj (h₀:=by rw[aa];exact hj') (h₁:=by rw[aa];exact hi) nd).mp (by rw[List.getElem_map,List.getElem_map,e2])
 omega
theorem a8F{l:Addr}{ps:List (List Key×Addr×Value)}(nd:(ps.map (·.1)).Nodup)(n1:d≠it)(n2:d≠l)(n3:it≠l)(hsz:items.size=ps.length)(hz:ps.length<=sizeLine)(k:Nat):∀(i:Nat),ps.length-i=k->i<=ps.length->MeetsIn prog w (Builtin.«dict.update.loop» ⟨[.ref d,.ref it,rawInt i,.none],[]⟩)
 (fun A R s=>A.handled=none/\(TK prog w).room A.in1/\s.heap.IsListIter it l i/\s.heap.IsList l items/\s.heap.DictOfH (TK prog w) d (ps.take i)∧
  (∀(j:Nat) (p:List Key×Addr×Value),ps[j]? =some p->(p.2.1≠d/\p.2.1≠it/\(TK prog w).is s.heap p.1 p.2.1)/\∃t,items[j]? = ~~~t/\t≠d/\t≠it/\IsTup s.heap t #[.ref p.2.1,p.2.2])∧
  ∀h' tk,h'.DictOfH (TK prog w) d ps->(∀b o,b≠d->b≠it->s.heap.get? b=some o->h'.get? b=some o)->R (.ok (.ret .none)) {s with heap:=h',toks:=tk}):=by
 induction k with
 |zero=>
  intro i hk hi A R s h;obtain⟨hA,hu,hit,hl,hd,hq,h⟩:=h
  have hx:items[i]? =none:=by rw[Array.getElem?_eq_none];omega
  rw[bp (by omega)] at hd
  unfold Builtin.«dict.update.loop»;refine wpAny_bind (wpAny_pyNext_list_end hA hit hl hx fun h' eb=>?_)
  refine wpAny_bind ?_
  unfold Builtin.Dict.addKeywords;refine wpAny_pure (wpAny_pure (h h' s.toks (a2x hd fun b o hb e=>eb b o ?_ e) fun b o n1 n2 e=>eb b o n2 e))
  rcases hb with rfl|⟨p,hp,rfl⟩
  · exact n1
  · obtain⟨j,hj⟩:=bj hp
    exact(hq j p hj).1.2.1
 | succ k ih=>
  intro i hk hi A R s h;obtain⟨hA,hu,hit,hl,hd,hq,h⟩:=h
  have hlt:i<ps.length:=by omega
  obtain⟨⟨a1,a2,a3⟩,t,e1,e2,e3,e4⟩:=hq i ps[i] (af hlt)
  unfold Builtin.«dict.update.loop»;refine wpAny_bind (wpAny_pyNext_list_item hit hl e1 fun h1 st sb=>?_)
  have k1:∀b o,b≠it->s.heap.get? b=some o->h1.get? b=some o:=fun b o n e=>(sb.2 b n).trans e
  refine wpAny_bind (wpAny_holding (wpAny_bind (wpAny_tryCatch (a2P (show IsTup h1 t #[.ref ps[i].2.1,ps[i].2.2] from let⟨o,ho,r⟩:=e4;⟨o,k1 t o e3 ho,r⟩) ?_))))
  refine wpAny_holding (wpAny_dictSet_heap (hsz:=by rw[aM];omega) hu (a2j a3 fun o e=>k1 _ o a2 e) (a2x hd fun b o hb e=>k1 b o ?_ e) fun h2 dd sb2=>?_)
  · rcases hb with rfl|⟨p,hp,rfl⟩
    · exact n1
    · obtain⟨j,hj⟩:=bj (List.mem_of_mem_take hp)
      exact(hq j p hj).1.2.1
  rw[b3M nd hlt .none] at dd
  have k2:∀b o,b≠d->b≠it->s.heap.get? b=some o->h2.get? b=some o:=fun b o n n' e=>(sb2.2 b n).trans (k1 b o n' e)
  refine wpAny_pure ⟨plainId_quiet t7 _,codeAny_builtin K7 (by
   rw[Around.under_plainId t7 _,show((i:Nat):Int)+1=((i+1:Nat):Int) by omega]
   refine ih (i+1) (by omega) (by omega) A R _ ⟨hA,hu,?_,?_,dd,fun j p hj=>?_,fun h' tk d1 d2=>?_⟩
   · obtain⟨o,ho,r⟩:=st;exact⟨o,(sb2.2 it n1.symm).trans ho,r⟩
   · obtain⟨o,ho,r⟩:=hl;exact⟨o,k2 l o n2.symm n3.symm ho,r⟩
   · obtain⟨⟨b1,b2,b3⟩,t,q1,q2,q3,⟨o,ho,r⟩⟩:=hq j p hj;exact⟨⟨b1,b2,a2j b3 fun o e=>k2 _ o b1 b2 e⟩,t,q1,q2,q3,⟨o,k2 t o q2 q3 ho,r⟩⟩
   · exact h h' tk d1 fun b o n n' e=>d2 b o n n' (k2 b o n n' e))⟩
theorem a1L{E:Value->Shared->Prop}{s:Shared}{l:Addr}{ol:Obj}{ps:List (List Key×Addr×Value)}(hA:A.handled=none)(hu:A.units+2<cLine)(hx:s.heap.get? l=some ol)(hc:ol.cls=.type "list")(hdat:ol.data=.seq items n)(hd:ol.dict=none)(hsz:items.size=ps.length)(hz:ps.length<=sizeLine)(nd:(ps.map (·.1)).Nodup)
 (hq:∀(j:Nat) (p:List Key×Addr×Value),ps[j]? =some p->(TK prog w).is s.heap p.1 p.2.1/\∃t,items[j]? = ~~~t/\IsTup s.heap t #[.ref p.2.1,p.2.2])
 (h:∀h' tk,h'.DictOfH (TK prog w) s.heap.objs.size ps->(∀b o,s.heap.get? b=some o->h'.get? b=some o)->Q (.ref s.heap.objs.size) {s with heap:=h',toks:=tk}):
 wpAny (model prog w) A (call (.type "dict") [.ref l]) Q E s:=by
 refine callType_codes (Q₁:=fun obj s₁=>obj=.ref s.heap.objs.size/\s₁={s with heap:=s.heap.push {cls:=.type "dict",data:=.dict #[]}}) PySem.F.kt_called_dict (PySem.F.kt_typeCall_dict_1 _) PySem.F.entry_dict_init (kt_code_dict_new _ ⟨rfl,rfl⟩) ?_
 rintro obj s₁ ⟨rfl,rfl⟩
 have hnew:(s.heap.push {cls:=.type "dict",data:=.dict #[]}).DictOfH (TK prog w) s.heap.objs.size []:=Heap.DictOfH.new s.heap
 have hx1:(s.heap.push {cls:=.type "dict",data:=.dict #[]}).get? l=some ol:=Heap.get?_push_of_some _ hx
 have ty:Shared.TypeIs {s with heap:=s.heap.push {cls:=.type "dict",data:=.dict #[]}} (.ref l) "list":=⟨_,hx1,hc⟩
 have nl:s.heap.objs.size≠l:=fun e=>absurd (Heap.lt_size hx) (by rw[e];exact aR _)
 refine⟨hnew.typeIs,PySem.F.args_dict_init_2 _ _,?_⟩
 unfold Builtin.«dict.__init__»;refine wpAny_bind ?_
 unfold Builtin.Dict.selfAndRest;refine wpAny_bind (wpAny_notOrdered_dict hnew.typeIs ?_)
 show wpAny _ _ (pure (s.heap.objs.size,[Value.ref l])) _ _ _
 refine wpAny_pure ?_
 show wpAny _ _ (Builtin.Dict.updateFrom "dict.__init__" s.heap.objs.size (.ref l) [] .none) _ _ _
 unfold Builtin.Dict.updateFrom;refine wpAny_bind (wpAny_typeOf ty ?_)
 rw[ay (by decide)]
 refine wpAny_bind (a3P hx1 hc hdat hd ?_ fun h1 tk1 k1=>?_)
 · exact hA
 · rw [ay (show(none:Option Value).isNone=true from rfl)]
   have hx2:h1.get? l=some ol:=k1 l _ hx1
   have hd2:h1.DictOfH (TK prog w) s.heap.objs.size []:=a2x hnew fun b o _ e=>k1 b o e
   have lt1:s.heap.objs.size<h1.objs.size:=by
    obtain⟨o,_,_,ho,_⟩:=hd2;exact Heap.lt_size ho
   refine wpAny_bind (wpAny_rule (wpAny_bind (wpAny_pyIter_list (items:=items) ⟨ol,hx2,hc,n,hdat⟩ ?_)))
   refine wpAny_pure ⟨plainId_quiet t7 _,codeAny_builtin K7 (by
    rw[Around.under_plainId t7 _];refine a8F nd (d:=s.heap.objs.size) (it:=h1.objs.size) (l:=l) (ps:=ps) (Nat.ne_of_lt lt1) nl (fun e=>absurd (Heap.lt_size hx2) (by rw[←e];exact aR _)) hsz hz _ 0 rfl (Nat.zero_le _) A.in1 _ _ ⟨hA,tupleKind_room_in1 (A:=A.in1) hu,⟨_,Heap.get?_push_size _ rfl,rfl,rfl⟩,⟨ol,Heap.get?_push_of_some _ hx2,hc,n,hdat⟩,a2x hd2 fun b o _ e=>Heap.get?_push_of_some _ e,fun j p hj=>?_,fun h' tk d1 d2=>⟨rfl,?_⟩⟩
    · obtain⟨b3,t,q1,⟨o,ho,r⟩⟩:=hq j p hj;have ho1:=k1 t o (Heap.get?_push_of_some _ ho)
      obtain⟨ob,its,m,e1,_⟩:=id b3;have eb:=k1 _ ob (Heap.get?_push_of_some _ e1)
      exact⟨⟨fun e=>absurd (Heap.lt_size e1) (by rw[e];exact aR _),fun e=>absurd (Heap.lt_size eb) (by rw[e];exact aR _),a2j b3 fun o e=>Heap.get?_push_of_some _ (k1 _ o (Heap.get?_push_of_some _ e))⟩,t,q1,fun e=>absurd (Heap.lt_size ho) (by rw[e];exact aR _),fun e=>absurd (Heap.lt_size ho1) (by rw[e];exact aR _),⟨o,Heap.get?_push_of_some _ ho1,r⟩⟩
    · refine h h' tk d1 fun b o e=>d2 b o (fun z=>absurd (Heap.lt_size e) (by rw[z];exact aR _)) (fun z=>?_) (Heap.get?_push_of_some _ (k1 b o (Heap.get?_push_of_some _ e)))
      have:=Heap.lt_size (k1 b o (Heap.get?_push_of_some _ e))
      rw[z] at this;exact absurd this (aR _))⟩
end
def b7Q(H:Hp):List V->List (List Key×V)->Prop:=Paired fun y p=>∃t b,y=.ref t/\H t=some (.tup [.ref b,p.2])/\H b=some (.tup (p.1.map kV))
section
variable{X:Cx}
theorem a7R{pins:List (Addr×Obj)}{σ:St}{H:Hp}{s:Shared}(I:Inv X pins σ H s):∀{ys:List V} {kvs:List (List Key×V)} {its:List Value},b7Q H ys kvs->i7 ys its->∃ps:List (List Key×Addr×Value),Paired (fun(p:List Key×V) (q:List Key×Addr×Value)=>p.1=q.1/\H q.2.1=some (.tup (p.1.map kV))/\f6 p.2 q.2.2) kvs ps/\ps.length=its.length∧
 ∀(j:Nat) (p:List Key×Addr×Value),ps[j]? =some p->(TK X.prog X.w).is s.heap p.1 p.2.1/\∃t,its[j]? = ~~~t/\IsTup s.heap t #[.ref p.2.1,p.2.2]
 |_,_,_,.nil,.nil=>⟨[],.nil,rfl,fun j p h=>by simp at h⟩
 | _,_,_,.cons h t,.cons r q=>by
  obtain⟨ps,k1,k2,k3⟩:=a7R I t q;obtain⟨a,b,rfl,ha,hb⟩:=h;cases r;obtain⟨_,its,rv,pa⟩:=I.hok a _ ha;obtain⟨u,w',rfl,ru,rw'⟩:=a3A rv;cases ru;refine⟨(_,b,w')::ps,.cons ⟨rfl,hb,rw'⟩ k1,by rw[length_cons,length_cons,k2],fun j p hj=>?_⟩
  cases j with
  |zero=>
   cases hj;exact⟨a0P I.hok hb,a,rfl,pa.tup⟩
  |succ j=>exact k3 j p hj
theorem a3v(hc:X.calm=true)(hu:X.A.units+2<cLine):C6 X (.type "dict") (fun xs H Q=>∃p ys kvs,xs=[.ref p]/\SqL X.K H p ys/\b7Q H ys kvs/\(kvs.map (·.1)).Nodup/\∀d,H d=none->Q (.ref d) (upd H d (.dT kvs))):=by
 intro pins s σ H xs us Q I r h;obtain⟨p,ys,kvs,rfl,hq,pr,nd,q⟩:=h;obtain⟨u,rfl,rx⟩:=Q0 r;cases rx;obtain⟨its,rv,pl,hz⟩:=I.list hq;obtain⟨o,n,e,c,hd,dat⟩:=pl;obtain⟨ps,k1,k2,k3⟩:=a7R I pr rv;have l1:=rv.length;have l2:=Paired.length pr
 have nd2:(ps.map (·.1)).Nodup:=by
  have:∀{kvs:List (List Key×V)} {ps:List (List Key×Addr×Value)},Paired (fun(p:List Key×V) (q:List Key×Addr×Value)=>p.1=q.1/\H q.2.1=some (.tup (p.1.map kV))/\f6 p.2 q.2.2) kvs ps->ps.map (·.1)=kvs.map (·.1):=by
   intro kvs ps r
   induction r with
   |nil=>rfl
   |cons h t ih=>rw[map_cons,map_cons,ih,h.1]
  rw[this k1];exact nd
 refine a1L (items:=its.toArray) (ps:=ps) (I.ok.hd hc) hu e c dat hd (by simp[k2]) (by omega) nd2 (fun j p hj=>?_) fun h' tk dd kp=>?_
 · obtain⟨b,t,q1,q2⟩:=k3 j p hj;exact⟨b,t,by simpa using q1,q2⟩
 · obtain⟨q',es,ep,h1,h2,h3,h4,_,h5⟩:=dd;have lk:=Paired.length k1;refine⟨.ref s.heap.objs.size,_,I.laid (o:=.dT kvs) (t':=tk) (fun b o e=>kp b o e) (ai _) ⟨by omega,beq_eq_false_iff_ne.mpr (Nat.ne_of_gt I.big),ps,Paired.mapP k1 fun p q z=>⟨z.1,?_,z.2.2⟩,q',es,ep,h1,h2,h3,h4,h5⟩,rfl,q _ (I.hok.fresh (ai _))⟩
   rw[c9 (o4 z.2.1 (I.hok.fresh (ai _)))];exact z.2.1
end
end L2
namespace EV
open PySem L2
inductive D where
 |non|bl (b:Bool)|int (i:Int)|str (x:Str)|tup (l:List D)|ref (n:Nat)
 deriving Inhabited
mutual
def D.dec:(a b:D)->Decidable (a=b)
  | .non,b=>match b with
    |.non=>Decidable.isTrue rfl
    |.bl _=>Decidable.isFalse (fun h=>nomatch h)|.int _=>Decidable.isFalse (fun h=>nomatch h)|.str _=>Decidable.isFalse (fun h=>nomatch h)|.tup _=>Decidable.isFalse (fun h=>nomatch h)|.ref _=>Decidable.isFalse (fun h=>nomatch h)
  | .bl x,b=>match b with
    |.bl y=>if h:x=y then Decidable.isTrue (by rw[h]) else Decidable.isFalse (fun e=>h (by injection e))
    |.non=>Decidable.isFalse (fun h=>nomatch h)|.int _=>Decidable.isFalse (fun h=>nomatch h)|.str _=>Decidable.isFalse (fun h=>nomatch h)|.tup _=>Decidable.isFalse (fun h=>nomatch h)|.ref _=>Decidable.isFalse (fun h=>nomatch h)
  | .int x,b=>match b with
    |.int y=>if h:x=y then Decidable.isTrue (by rw[h]) else Decidable.isFalse (fun e=>h (by injection e))
    |.non=>Decidable.isFalse (fun h=>nomatch h)|.bl _=>Decidable.isFalse (fun h=>nomatch h)|.str _=>Decidable.isFalse (fun h=>nomatch h)|.tup _=>Decidable.isFalse (fun h=>nomatch h)|.ref _=>Decidable.isFalse (fun h=>nomatch h)
  | .str x,b=>match b with
    |.str y=>if h:x=y then Decidable.isTrue (by rw[h]) else Decidable.isFalse (fun e=>h (by injection e))
    |.non=>Decidable.isFalse (fun h=>nomatch h)|.bl _=>Decidable.isFalse (fun h=>nomatch h)|.int _=>Decidable.isFalse (fun h=>nomatch h)|.tup _=>Decidable.isFalse (fun h=>nomatch h)|.ref _=>Decidable.isFalse (fun h=>nomatch h)
  | .tup x,b=>match b with
    | .tup y=>match D.decs x y with
      |.isTrue h=>Decidable.isTrue (by rw[h])
      |.isFalse h=>Decidable.isFalse (fun e=>h (by injection e))
    |.non=>Decidable.isFalse (fun h=>nomatch h)|.bl _=>Decidable.isFalse (fun h=>nomatch h)|.int _=>Decidable.isFalse (fun h=>nomatch h)|.str _=>Decidable.isFalse (fun h=>nomatch h)|.ref _=>Decidable.isFalse (fun h=>nomatch h)
  | .ref x,b=>match b with
    |.ref y=>if h:x=y then Decidable.isTrue (by rw[h]) else Decidable.isFalse (fun e=>h (by injection e))
    |.non=>Decidable.isFalse (fun h=>nomatch h)|.bl _=>Decidable.isFalse (fun h=>nomatch h)|.int _=>Decidable.isFalse (fun h=>nomatch h)|.str _=>Decidable.isFalse (fun h=>nomatch h)|.tup _=>Decidable.isFalse (fun h=>nomatch h)
def D.decs:(a b:List D)->Decidable (a=b)
  | [],b=>match b with
    |[]=>Decidable.isTrue rfl
    |_::_=>Decidable.isFalse (fun h=>nomatch h)
  | x ::xs,b=>match b with
    |[]=>Decidable.isFalse (fun h=>nomatch h)
    | y ::ys=>match D.dec x y with
      | .isTrue h1=>match D.decs xs ys with
        |.isTrue h2=>Decidable.isTrue (by rw[h1,h2])
        |.isFalse h2=>Decidable.isFalse (fun e=>h2 (by injection e))
      |.isFalse h1=>Decidable.isFalse (fun e=>h1 (by injection e))
end
instance:DecidableEq D:=D.dec
inductive Cell where
 |lst (l:List D)|rol (l:List D)|rod (l:List (D×D))|dict (l:List (D×D))|obj (c:Nat) (fs:List (Str×D))
 deriving DecidableEq
abbrev AH:=List Cell
inductive R(α:Type)where
 |ok (a:α) (h:AH)|no
def R.bind{α β:Type}(r:R α)(k:α->AH->R β):R β:=match r with
 |.ok a h=>k a h
 |.no=>.no
@[simp] theorem b9 {α β:Type} (a:α) (h:AH) (k:α->AH->R β):(R.ok a h).bind k=k a h:=rfl
@[simp] theorem b4T {α β:Type} (k:α->AH->R β):(R.no).bind k=.no:=rfl
mutual
def D.flat:D->Bool
  |.tup l=>D.flats l
  |.ref _=>false
  |_=>true
def D.flats:List D->Bool
  |[]=>true
  |d::r=>d.flat&&D.flats r
end
abbrev SL:Nat:=16777216
noncomputable def o5(c:Cell)(h:AH):R D:=.ok (.ref h.length) (h++[c])
noncomputable def rdL(h:AH)(n:Nat):Option (List D):=match h[n]? with
 |some (.lst l)=>some l
 |some (.rol l)=>some l
 |_=>none
noncomputable def a2n:Int->Bool
 |.ofNat n=>Nat.ble n 18446744073709551615
 |.negSucc n=>Nat.ble n 18446744073709551614
noncomputable def N5:Int->Bool
 |.ofNat n=>Nat.ble n 16777216
 |.negSucc n=>Nat.ble n 16777216
theorem a2F:∀{i:Int},a2n i=true-> -(2^64)<i/\i<2^64
 |.ofNat n,h=>by
  have h:=Nat.le_of_ble_eq_true h
  show-(2^64)<(n:Int)/\(n:Int)<2^64
  omega
 |.negSucc n,h=>by
  have h:=Nat.le_of_ble_eq_true h;rw[Int.negSucc_eq];omega
theorem t9:∀{i:Int},N5 i=true-> -(2^62)<=i/\i<2^62
 |.ofNat n,h=>by
  have h:=Nat.le_of_ble_eq_true h
  show-(2^62)<=(n:Int)/\(n:Int)<2^62
  omega
 |.negSucc n,h=>by
  have h:=Nat.le_of_ble_eq_true h;rw[Int.negSucc_eq];omega
def Y3(h:AH):D->D->R D
 |.int i,.int j=>.ok (.int (i+j)) h
 |.str x,.str y=>if x.length+y.length<=SL then .ok (.str (x++y)) h else .no
 |.ref a,.ref b=>match h[a]?,h[b]? with
  |some (.lst xs),some (.lst ys)=>if xs.length+ys.length<=SL then o5 (.lst (xs++ys)) h else .no
  |_,_=>.no
 |_,_=>.no
noncomputable def a5Y(h:AH):D->D->R D
 |.int i,.int j=>.ok (.int (i-j)) h
 |_,_=>.no
def U7(h:AH):D->D->R D
 |.int i,.int j=>if(a2n i||a2n j)=true then .ok (.int (i*j)) h else .no
 |.ref a,.int k=>match h[a]? with
  |some (.lst xs)=>if N5 k=true/\xs.length*k.toNat<=SL then o5 (.lst (List.replicate k.toNat xs).flatten) h else .no
  |_=>.no
 |.str x,.int k=>if N5 k=true/\x.length*k.toNat<=SL then .ok (.str (E1 k.toNat x)) h else .no
 |_,_=>.no
noncomputable def D3(h:AH):D->D->R D
 |.int i,.int j=>if 0<j/\j<1073741824 then .ok (.int (i/j)) h else .no
 |_,_=>.no
noncomputable def u0(h:AH):D->D->R D
 |.int i,.int j=>if 0<j then .ok (.int (i%j)) h else .no
 |_,_=>.no
noncomputable def eqS(a b:D):Option Bool:=match a with
 |.int i=>(match b with
  |.int j=>some (decide (i=j))
  |_=>none)
 |.str i=>(match b with
  |.str j=>some (decide (i=j))
  |_=>none)
 |_=>none
noncomputable def E8(p:Int->Int->Bool)(h:AH):D->D->R D
 |.int i,.int j=>.ok (.bl (p i j)) h
 |_,_=>.no
noncomputable def a4K(i j:Str):Bool:=!(Builtin.Str.occurrences j i 0 j.length 1).isEmpty
noncomputable def B7:D->Bool
 |.non=>true|.bl _=>true|.int _=>true|.str _=>true
 |_=>false
noncomputable def eqF:D->D->Bool
 |.non,.non=>true
 |.bl a,.bl b=>a==b
 |.bl a,.int b=>(if a then 1 else 0)==b
 |.int a,.bl b=>a==(if b then 1 else 0)
 |.int a,.int b=>a==b
 |.str a,.str b=>a==b
 |_,_=>false
def inD(x:D)(xs:List D):Bool:=xs.any fun y=>eqF y x
def c1f:List D->List D->Bool
 |[],[]=>true
 |x::xs,y::ys=>eqF x y&&c1f xs ys
 |_,_=>false
def a7G(x y:D):Bool:=match x with
 |.tup l=>(match y with
  |.tup r=>decide (l.length=r.length)&&(l.zip r).all fun p=>decide (p.1=p.2)&&B7 p.1
  |_=>false)
 |_=>false
def K0(h:AH)(a b:D):R D:=match eqS a b with
 |some c=>.ok (.bl c) h
 |none=>.no
def a1g(h:AH)(a b:D):R D:=match eqS a b with
 |some c=>.ok (.bl (!c)) h
 |none=>if a7G a b=true then .ok (.bl false) h else .no
noncomputable def E9:D->Option Key
 |.int i=>some (.inl i)
 |.str x=>some (.inr x)
 |_=>none
def u7:List D->Option (List Key)
 |[]=>some []
 |d::r=>match E9 d,u7 r with
  |some k,some ks=>some (k::ks)
  |_,_=>none
def L7:D->Option Bool
 |.int _=>some false
 |.str _=>some false
 |.tup l=>if(u7 l).isSome then some true else none
 |_=>none
def z7(k:D)(kvs:List (D×D)):Bool:=(L7 k).isSome&&kvs.all fun p=>L7 p.1==L7 k
noncomputable def k8(kvs:List (D×D))(k:D):Option D:=(kvs.find? fun p=>decide (p.1=k)).map (·.2)
noncomputable def a0K(kvs:List (D×D))(k v:D):List (D×D):=if(kvs.any fun p=>decide (p.1=k))=true then kvs.map (fun p=>if p.1=k then(p.1,v) else p) else kvs++[(k,v)]
def V9(neg:Bool)(h:AH):D->D->R D
 |.str i,.str j=>.ok (.bl (a4K i j !=neg)) h
 |x,.tup xs=>if B7 x&&xs.all B7 then .ok (.bl (inD x xs !=neg)) h else .no
 |x,.ref n=>match h[n]? with
  |some (.lst xs)=>if B7 x&&xs.all B7 then .ok (.bl (inD x xs !=neg)) h else .no
  |some (.rol xs)=>if B7 x&&xs.all B7 then .ok (.bl (inD x xs !=neg)) h else .no
  |some (.dict kvs)=>if z7 x kvs then .ok (.bl ((k8 kvs x).isSome !=neg)) h else .no
  |_=>.no
 |_,_=>.no
inductive B where
 |add|sub|mul|div|mod|eq|ne|lt|le|gt|ge|isin|notin
 deriving DecidableEq
def op2(o:B)(h:AH)(a b:D):R D:=match o with
 |.add=>Y3 h a b|.sub=>a5Y h a b|.mul=>U7 h a b|.div=>D3 h a b|.mod=>u0 h a b
 |.eq=>K0 h a b|.ne=>a1g h a b
 |.lt=>E8 (fun i j=>decide (i<j)) h a b|.le=>E8 (fun i j=>decide (i<=j)) h a b|.gt=>E8 (fun i j=>decide (j<i)) h a b|.ge=>E8 (fun i j=>decide (j<=i)) h a b
 |.isin=>V9 false h a b|.notin=>V9 true h a b
def ixD (h:AH):D->D->R D
 |.tup xs,.int i=>match atI xs i with
  |some d=>.ok d h
  |none=>.no
 |.str x,.int i=>if x.length<=SL then(match atI x.cps.toList i with
  |some c=>.ok (.str ⟨#[c]⟩) h
  |none=>.no) else .no
 | .ref n,k=>match h[n]? with
  | some (.lst xs)=>(match k with
   |.int i=>(match atI xs i with
    |some d=>.ok d h
    |none=>.no)
   |_=>.no)
  | some (.rol xs)=>(match k with
   |.int i=>(match atI xs i with
    |some d=>.ok d h
    |none=>.no)
   |_=>.no)
  |some (.dict kvs)=>if z7 k kvs then(match k8 kvs k with
   |some d=>.ok d h
   |none=>.no) else .no
  |_=>.no
 |_,_=>.no
def V3(xs:List D)(lo hi:Option Int):List D:=(xs.drop (HT.sIx xs.length 0 lo)).take (HT.sIx xs.length xs.length hi-HT.sIx xs.length 0 lo)
def slD(h:AH)(lo hi:Option Int):D->R D
 |.str x=>if x.length<=SL then .ok (.str (Txt.slice x lo hi)) h else .no
 |.tup xs=>if HT.sIx xs.length 0 lo=0/\HT.sIx xs.length xs.length hi=xs.length then .no else .ok (.tup (V3 xs lo hi)) h
 |.ref n=>match rdL h n with
  |some xs=>o5 (.lst (V3 xs lo hi)) h
  |none=>.no
 |_=>.no
noncomputable def W8(h:AH)(f:Str):D->R D
 | .ref n=>match h[n]? with
  |some (.obj _ fs)=>(match fs.lookup f with
   |some d=>.ok d h
   |none=>.no)
  |_=>.no
 |_=>.no
inductive Bi where
 |len|str|int|list|tuple|all|max|sum|dict
 deriving DecidableEq
noncomputable def a7v:List D->Option (List Bool)
 |[]=>some []
 |.bl b::r=>(a7v r).map (b:: ·)
 |_::_=>none
noncomputable def a2C:List D->Option (List Str)
 |[]=>some []
 |.str x::r=>(a2C r).map (x:: ·)
 |_::_=>none
noncomputable def a3T:List D->Option (List Int)
 |[]=>some []
 |.int i::r=>(a3T r).map (i:: ·)
 |_::_=>none
def a5U:List D->Option (List (D×D))
 |[]=>some []
 |.tup [k,v]::r=>if(E9 k).isSome then(a5U r).map ((k,v):: ·) else none
 |_::_=>none
def a8W:List D->Option (List (D×D))
 |[]=>some []
 |.tup [.tup k,v]::r=>if(u7 k).isSome then(a8W r).map ((.tup k,v):: ·) else none
 |_::_=>none
def biD (b:Bi) (h:AH):List D->R D
 | [.str x]=>match b with
  |.len=>if x.length<=SL then .ok (.int x.length) h else .no
  |.int=>if x.length<=640 then(match PySem.intText? x with
   |some n=>.ok (.int n) h
   |none=>.no) else .no
  |_=>.no
 |[.tup xs]=>match b with
  |.len=>.ok (.int xs.length) h
  |.list=>o5 (.lst xs) h
  |.tuple=>.ok (.tup xs) h
  |_=>.no
 |[.int i]=>match b with
  |.str=>if i.natAbs.log2<1920 then .ok (.str (toString i)) h else .no
  |.int=>.ok (.int i) h
  |_=>.no
 |[.bl k]=>match b with
  |.int=>.ok (.int (if k then 1 else 0)) h
  |_=>.no
 | [.ref n]=>match h[n]? with
  |some (.dict kvs)=>(match b with
   |.len=>if z7 (.int 0) kvs then .ok (.int kvs.length) h else .no
   |_=>.no)
  | _ =>match rdL h n with
   | some xs=>(match b with
    |.len=>.ok (.int xs.length) h
    |.list=>o5 (.lst xs) h
    |.tuple=>.ok (.tup xs) h
    |.all=>(match a7v xs with
     |some bs=>.ok (.bl (bs.all id)) h
     |none=>.no)
    |.sum=>(match a3T xs with
     |some is=>.ok (.int is.sum) h
     |none=>.no)
    | .dict=>(match a5U xs with
     |some kvs=>o5 (.dict (kvs.foldl (fun a p=>a0K a p.1 p.2) [])) h
     |none=>(match a8W xs with
      |some kvs=>if decide ((kvs.map (·.1)).Nodup)=true then o5 (.dict kvs) h else .no
      |none=>.no))
    |_=>.no)
   |none=>.no
 |[.int i,.int j]=>match b with
  |.max=>.ok (.int (if j>i then j else i)) h
  |_=>.no
 |_=>.no
inductive Mt where
 |append|split|join|starts|extend
 deriving DecidableEq
def mtD (b:Mt) (h:AH):D->List D->R D
 | .ref n,[d]=>match b,h[n]? with
  |.append,some (.lst xs)=>if xs.length<SL then .ok .non (h.set n (.lst (xs++[d]))) else .no
  | .extend,some (.lst xs)=>(match d with
   |.ref k=>(match h[k]? with
    |some (.lst ys)=>if xs.length+ys.length<=SL then .ok .non (h.set n (.lst (xs++ys))) else .no
    |_=>.no)
   |_=>.no)
  |_,_=>.no
 |.str x,[.str y]=>match b with
  |.split=>if 0<y.length/\x.length+2<=SL then o5 (.lst ((Txt.split x y).map D.str)) h else .no
  |.starts=>.ok (.bl (Txt.startswith x y)) h
  |_=>.no
 | .str x,[.ref n]=>match b with
  | .join=>(match rdL h n with
   |some xs=>(match a2C xs with
    |some ts=>if JoinOk x ts=true then .ok (.str (Txt.join x ts)) h else .no
    |none=>.no)
   |none=>.no)
  |_=>.no
 |_,_=>.no
def mtT(b:Mt)(h:AH):D->Bool
 |.str _=>match b with
  |.split=>true|.join=>true|.starts=>true
  |_=>false
 |.ref n=>match b with
  |.append=>(rdL h n).isSome
  |.extend=>(rdL h n).isSome
  |_=>false
 |_=>false
def a3e(h:AH):D->D->D->R D
 |.ref n,k,x=>match h[n]? with
  |some (.dict kvs)=>if z7 k kvs then .ok ((k8 kvs k).getD x) h else .no
  |_=>.no
 |_,_,_=>.no
noncomputable def a7g(h:AH):D->Bool
 |.ref n=>match h[n]? with
  |some (.dict _)=>true
  |_=>false
 |_=>false
def Q2 (h:AH) (o i v:D):R Unit:=match o with
 | .ref n=>match h[n]? with
  | some (.lst xs)=>(match i with
   |.int k=>(match ixN xs.length k with
    |some j=>.ok () (h.set n (.lst (xs.set j v)))
    |none=>.no)
   |_=>.no)
  |some (.dict kvs)=>if z7 i kvs=true/\kvs.length<SL then .ok () (h.set n (.dict (a0K kvs i v))) else .no
  |_=>.no
 |_=>.no
noncomputable def a3K(f:Str)(v:D):List (Str×D)->List (Str×D)
 |[]=>[(f,v)]
 |(g,x)::r=>if g=f then(g,v)::r else(g,x)::a3K f v r
def a4y(h:AH)(o:D)(f:Str)(v:D):R Unit:=match o with
 |.ref n=>match h[n]? with
  |some (.obj c fs)=>if fs.length<1000 then .ok () (h.set n (.obj c (a3K f v fs))) else .no
  |_=>.no
 |_=>.no
theorem D.ind{P:D->Prop}{Q:List D->Prop}(h0:P .non)(h1:∀b,P (.bl b))(h2:∀i,P (.int i))(h3:∀x,P (.str x))(h4:∀l,Q l->P (.tup l))(h5:∀n,P (.ref n))(q0:Q [])(q1:∀d r,P d->Q r->Q (d::r)):
 (∀d,P d)/\∀l,Q l:=
 ⟨fun d=>D.rec (motive_1:=P) (motive_2:=Q) h0 h1 h2 h3 h4 h5 q0 q1 d,fun l=>by
  induction l with
  |nil=>exact q0
  |cons d r ih=>exact q1 d r (D.rec (motive_1:=P) (motive_2:=Q) h0 h1 h2 h3 h4 h5 q0 q1 d) ih⟩
mutual
def Rp(m:List Addr)(H:Hp):D->V->Prop
  |.non,v=>v=.non
  |.bl b,v=>v=.bl b
  |.int i,v=>v=.int i
  |.str x,v=>v=.str x
  |.tup l,v=>∃a vs,v=.ref a/\H a=some (.tup vs)/\Rps m H l vs
  |.ref n,v=>∃a,v=.ref a/\m[n]? =some a
def Rps(m:List Addr)(H:Hp):List D->List V->Prop
  |[],vs=>vs=[]
  |d::r,vs=>∃v t,vs=v::t/\Rp m H d v/\Rps m H r t
end
def Im:HO->Prop
 |.tup _=>True
 |.frz _ _=>True
 |_=>False
def Imt:HO->Prop
 |.tup _=>True
 |_=>False
theorem imt{o:HO}(h:Imt o):Im o:=by cases o<;>first|exact h.elim|trivial
abbrev KIm(H H':Hp):Prop:=∀b o,Imt o->H b=some o->H' b=some o
structure Keep(m m':List Addr)(H H':Hp):Prop where
 imm:∀b o,Im o->H b=some o->H' b=some o
 out:∀b o,b∉m->H b=some o->H' b=some o
 fr:∀a,a∈m'->a∈m∨H a=none
variable{m:List Addr}{m':List Addr}{H:Hp}{H':Hp}
theorem Keep.im(k:Keep m m' H H'):KIm H H':=fun b o i h=>k.imm b o (imt i) h
theorem Keep.refl(m:List Addr)(H:Hp):Keep m m H H:=⟨fun _ _ _ h=>h,fun _ _ _ h=>h,fun _ h=>.inl h⟩
variable{m1:List Addr}{H1:Hp}
theorem Keep.trans{m2:List Addr}{H2:Hp}(a:Keep m m1 H H1)(b:Keep m1 m2 H1 H2):Keep m m2 H H2:=by
 refine⟨fun c o i h=>b.imm c o i (a.imm c o i h),fun c o n h=>b.out c o (fun z=>?_) (a.out c o n h),fun c h=>?_⟩
 · rcases a.fr c z with q|q
   · exact n q
   · rw[h] at q;cases q
 · rcases b.fr c h with q|q
   · exact a.fr c q
   · by_cases hc:c∈m
     · exact .inl hc
     · cases e:H c with
       |none=>exact .inr rfl
       |some o=>rw[a.out c o hc e] at q;cases q
theorem Keep.new{p:Addr}{o:HO}(hp:H p=none):Keep m m H (upd H p o):=
 ⟨fun b ob _ h=>by rw[c9 (o4 h hp)];exact h,fun b ob _ h=>by rw[c9 (o4 h hp)];exact h,fun _ h=>.inl h⟩
theorem Keep.newc{p:Addr}{o:HO}(hp:H p=none):Keep m (m++[p]) H (upd H p o):=
 ⟨fun b ob _ h=>by rw[c9 (o4 h hp)];exact h,fun b ob _ h=>by rw[c9 (o4 h hp)];exact h,fun a h=>by
  rcases aK.mp h with q|q
  · exact .inl q
  · simp at q;subst q;exact .inr hp⟩
variable{o':HO}
theorem Keep.put{p:Addr}{o:HO}{k:Nat}(hm:m[k]? =some p)(hp:H p=some o)(ni:¬Im o):Keep m m H (upd H p o'):=by
 refine⟨fun b ob i h=>?_,fun b ob n h=>?_,fun _ h=>.inl h⟩
 · have:b≠p:=fun e=>by rw[e,hp] at h;cases h;exact ni i
   rw[c9 this];exact h
 · have:b≠p:=fun e=>n (by rw[e];exact aG hm)
   rw[c9 this];exact h
theorem Keep.tup{m m':List Addr}{H H':Hp}(k:Keep m m' H H'){a:Addr}{vs:List V}(h:H a=some (.tup vs)):H' a=some (.tup vs):=k.imm a _ trivial h
abbrev Pre(m m':List Addr):Prop:=∃t,m'=m++t
theorem Pre.refl(m:List Addr):Pre m m:=⟨[],by simp⟩
theorem Pre.trans{a b c:List Addr}(h:Pre a b)(k:Pre b c):Pre a c:=by
 obtain⟨t,rfl⟩:=h;obtain⟨u,rfl⟩:=k;exact⟨t++u,by simp⟩
theorem Pre.snoc(m:List Addr)(p:Addr):Pre m (m++[p]):=⟨[p],rfl⟩
variable{n:Nat}{a:Addr}
theorem Pre.get(h:Pre m m')(e:m[n]? =some a):m'[n]? =some a:=by
 obtain⟨t,rfl⟩:=h;rw[av (ac.mp e).1];exact e
theorem a2q(p:Pre m m')(k:KIm H H'):(∀d v,Rp m H d v->Rp m' H' d v)/\∀l vs,Rps m H l vs->Rps m' H' l vs:=by
 refine D.ind (P:=fun d=>∀v,Rp m H d v->Rp m' H' d v) (Q:=fun l=>∀vs,Rps m H l vs->Rps m' H' l vs) ?_ ?_ ?_ ?_ ?_ ?_ ?_ ?_
 · intro v h;exact h
 · intro b v h;exact h
 · intro b v h;exact h
 · intro b v h;exact h
 · rintro l ih v ⟨a,vs,rfl,e,q⟩;exact⟨a,vs,rfl,k _ _ trivial e,ih vs q⟩
 · rintro n v ⟨a,rfl,e⟩;exact⟨a,rfl,p.get e⟩
 · intro vs h;exact h
 · rintro d r ih ihs vs ⟨v,t,rfl,q1,q2⟩;exact⟨v,t,rfl,ih v q1,ihs t q2⟩
variable{d:D}{v:V}
theorem Rp.mono(h:Rp m H d v)(p:Pre m m')(k:Keep m m' H H'):Rp m' H' d v:=(a2q p k.im).1 d v h
theorem Rp.mono'(h:Rp m H d v)(p:Pre m m')(k:KIm H H'):Rp m' H' d v:=(a2q p k).1 d v h
variable{vs:List V}
theorem Rps.mono{l:List D}(h:Rps m H l vs)(p:Pre m m')(k:Keep m m' H H'):Rps m' H' l vs:=(a2q p k.im).2 l vs h
theorem Rps.mono'{l:List D}(h:Rps m H l vs)(p:Pre m m')(k:KIm H H'):Rps m' H' l vs:=(a2q p k).2 l vs h
theorem a4A:(∀d v,D.flat d=true->Rp m H d v->Rp m' H d v)/\∀l vs,D.flats l=true->Rps m H l vs->Rps m' H l vs:=by
 refine D.ind (P:=fun d=>∀v,D.flat d=true->Rp m H d v->Rp m' H d v) (Q:=fun l=>∀vs,D.flats l=true->Rps m H l vs->Rps m' H l vs) ?_ ?_ ?_ ?_ ?_ ?_ ?_ ?_
 · intro v _ h;exact h
 · intro b v _ h;exact h
 · intro b v _ h;exact h
 · intro b v _ h;exact h
 · rintro l ih v f ⟨a,vs,rfl,e,q⟩;exact⟨a,vs,rfl,e,ih vs f q⟩
 · intro n v f;exact absurd f (by simp[D.flat])
 · intro vs _ h;exact h
 · rintro d r ih ihs vs f ⟨v,t,rfl,q1,q2⟩;rw[D.flats,ae] at f;exact⟨v,t,rfl,ih v f.1 q1,ihs t f.2 q2⟩
section
theorem Rps.len:∀{l:List D} {vs:List V},Rps m H l vs->vs.length=l.length
 |[],vs,h=>by rw[show vs=[] from h];rfl
 |d::r,vs,⟨v,t,e,_,q⟩=>by rw[e,length_cons,length_cons,Rps.len q]
theorem Rps.get:∀{l:List D} {vs:List V} {i:Nat} {d:D},Rps m H l vs->l[i]? =some d->∃v,vs[i]? =some v/\Rp m H d v
 |d'::r,vs,0,d,⟨v,t,e,q,_⟩,h=>by
  simp at h;subst h;exact⟨v,by rw[e];rfl,q⟩
 |d'::r,vs,i+1,d,⟨v,t,e,_,q⟩,h=>by
  obtain⟨w,h1,h2⟩:=Rps.get (i:=i) q (by simpa using h)
  exact⟨w,by rw[e];simpa using h1,h2⟩
 |[],_,_,_,_,h=>by simp at h
theorem Rps.app:∀{l l':List D} {vs vs':List V},Rps m H l vs->Rps m H l' vs'->Rps m H (l++l') (vs++vs')
 |[],_,vs,_,h,k=>by rw[show vs=[] from h];exact k
 |d::r,_,vs,_,⟨v,t,e,q1,q2⟩,k=>by subst e;exact⟨v,_,rfl,q1,Rps.app q2 k⟩
theorem Rps.snoc{l:List D}(h:Rps m H l vs)(q:Rp m H d v):Rps m H (l++[d]) (vs++[v]):=h.app ⟨v,[],rfl,q,rfl⟩
theorem Rps.drop:∀{l:List D} {vs:List V} (n:Nat),Rps m H l vs->Rps m H (l.drop n) (vs.drop n)
 |[],vs,n,h=>by rw[show vs=[] from h];simp[Rps]
 |d::r,vs,0,h=>h
 |d::r,vs,n+1,⟨v,t,e,_,q⟩=>by subst e;exact Rps.drop n q
theorem Rps.take:∀{l:List D} {vs:List V} (n:Nat),Rps m H l vs->Rps m H (l.take n) (vs.take n)
 |[],vs,n,h=>by rw[show vs=[] from h];simp[Rps]
 |d::r,vs,0,h=>by simp[Rps]
 |d::r,vs,n+1,⟨v,t,e,q1,q⟩=>by subst e;exact⟨v,_,rfl,q1,Rps.take n q⟩
theorem Rps.set:∀{l:List D} {vs:List V} {d:D} {v:V} (n:Nat),Rps m H l vs->Rp m H d v->Rps m H (l.set n d) (vs.set n v)
 |[],vs,_,_,n,h,_=>by rw[show vs=[] from h];simp[Rps]
 |d::r,vs,_,_,0,⟨v,t,e,q1,q⟩,k=>by subst e;exact⟨_,t,rfl,k,q⟩
 |d::r,vs,_,_,n+1,⟨v,t,e,q1,q⟩,k=>by subst e;exact⟨v,_,rfl,q1,Rps.set n q k⟩
theorem Rps.rep{l:List D}{vs:List V}(h:Rps m H l vs):∀k:Nat,Rps m H (List.replicate k l).flatten (List.replicate k vs).flatten
 |0=>rfl
 |k+1=>by
  rw[replicate_succ,replicate_succ,flatten_cons,flatten_cons];exact h.app (Rps.rep h k)
theorem Rps.strs:∀{ts:List Str},Rps m H (ts.map D.str) (ts.map V.str)
 |[]=>rfl
 |x::r=>⟨_,_,rfl,rfl,Rps.strs⟩
theorem Rps.cut{l:List D}(h:Rps m H l vs)(lo hi:Option Int):Rps m H (V3 l lo hi) (a6u vs lo hi):=by
 unfold V3 a6u;rw[h.len];exact(h.drop _).take _
theorem Rps.at{l:List D}{i:Int}(h:Rps m H l vs)(e:atI l i=some d):∃v,atI vs i=some v/\Rp m H d v:=by
 unfold atI at e⊢;rw[h.len]
 cases q:ixN l.length i with
 |none=>rw[q] at e;cases e
 |some j=>rw[q] at e;exact h.get e
theorem a5N:∀{l:List D} {ts:List Str} {vs:List V},a2C l=some ts->Rps m H l vs->vs=ts.map V.str
 |[],ts,vs,e,h=>by cases e;exact h
 |d::r,ts,vs,e,⟨v,t,ev,q1,q2⟩=>by
  subst ev
  cases d<;>simp only[a2C] at e<;>try cases e
  rename_i x
  cases q:a2C r with
  |none=>rw[q] at e;cases e
  |some us=>rw[q] at e;cases e;rw[a5N q q2,show v=V.str x from q1];rfl
theorem a7I:∀{l:List D} {ts:List Bool} {vs:List V},a7v l=some ts->Rps m H l vs->vs=ts.map V.bl
 |[],ts,vs,e,h=>by cases e;exact h
 |d::r,ts,vs,e,⟨v,t,ev,q1,q2⟩=>by
  subst ev
  cases d<;>simp only[a7v] at e<;>try cases e
  rename_i x
  cases q:a7v r with
  |none=>rw[q] at e;cases e
  |some us=>rw[q] at e;cases e;rw[a7I q q2,show v=V.bl x from q1];rfl
end
structure Gm where
 K:PySem.W.Frag
 cA:Nat->Addr
 ob:List Nat
 xs:List Nat
def Fl(m:List Addr)(H:Hp):List (Str×D)->List (Str×V)->Prop:=Paired fun p q=>p.1=q.1/\Rp m H p.2 q.2
def DK(m:List Addr)(H:Hp):List (D×D)->List (Key×V)->Prop:=Paired fun p q=>E9 p.1=some q.1/\Rp m H p.2 q.2
def DT(m:List Addr)(H:Hp):List (D×D)->List (List Key×V)->Prop:=Paired fun p q=>(∃l,p.1=.tup l/\u7 l=some q.1)/\Rp m H p.2 q.2
def DU(m:List Addr)(H:Hp)(l:List (D×D))(u:HO):Prop:=(∃kvs,u=.dK kvs/\DK m H l kvs)∨∃kvs,u=.dT kvs/\DT m H l kvs
variable{l:List (D×D)}{u:HO}
theorem DU.is(h:DU m H l u):b7S u:=by
 rcases h with⟨_,rfl,_⟩|⟨_,rfl,_⟩<;>trivial
def E3(Γ:Gm)(m:List Addr)(H:Hp)(a:Addr):Cell->Prop
 |.lst l=>∃vs,H a=some (.lst vs)/\Rps m H l vs
 |.rol l=>∃vs,SqL Γ.K H a vs/\Rps m H l vs/\∃o,H a=some (.frz o (.lst vs))
 |.rod l=>∃u o,H a=some (.frz o u)/\DU m H l u
 |.dict l=>(∃kvs,H a=some (.dK kvs)/\DK m H l kvs)∨∃kvs,H a=some (.dT kvs)/\DT m H l kvs
 |.obj c fs=>∃dx gs,H a=some (.ins (Γ.cA c) dx gs)/\Fl m H fs gs/\c∈Γ.ob
variable{Γ:Gm}
theorem E3.there{c:Cell}(h:E3 Γ m H a c):∃o,H a=some o/\True:=by
 cases c with
 |lst l=>obtain⟨vs,e,_⟩:=h;exact⟨_,e,trivial⟩
 |rol l=>obtain⟨vs,_,_,o,e⟩:=h;exact⟨_,e,trivial⟩
 |rod l=>obtain⟨u,o,e,_⟩:=h;exact⟨_,e,trivial⟩
 |dict l=>
  rcases h with⟨kvs,e,_⟩|⟨kvs,e,_⟩
  · exact⟨_,e,trivial⟩
  · exact⟨_,e,trivial⟩
 |obj c fs=>obtain⟨dx,gs,e,_⟩:=h;exact⟨_,e,trivial⟩
theorem Fl.mono{fs:List (Str×D)}{gs:List (Str×V)}(h:Fl m H fs gs)(p:Pre m m')(k:KIm H H'):Fl m' H' fs gs:=Paired.mapP h fun _ _ z=>⟨z.1,z.2.mono' p k⟩
variable{gs:List (Key×V)}
theorem DK.mono{fs:List (D×D)}(h:DK m H fs gs)(p:Pre m m')(k:KIm H H'):DK m' H' fs gs:=Paired.mapP h fun _ _ z=>⟨z.1,z.2.mono' p k⟩
theorem DT.mono{fs:List (D×D)}{gs:List (List Key×V)}(h:DT m H fs gs)(p:Pre m m')(k:KIm H H'):DT m' H' fs gs:=Paired.mapP h fun _ _ z=>⟨z.1,z.2.mono' p k⟩
theorem E3.mono'{c:Cell}(h:E3 Γ m H a c)(p:Pre m m')(k:KIm H H')(e:H' a=H a):E3 Γ m' H' a c:=by
 cases c with
 |lst l=>obtain⟨vs,q,r⟩:=h;exact⟨vs,e.trans q,r.mono' p k⟩
 |rol l=>obtain⟨vs,s,r,o,q⟩:=h;exact⟨vs,.inl (.inr ⟨o,e.trans q⟩),r.mono' p k,o,e.trans q⟩
 |rod l=>
  obtain⟨u,o,q,r⟩:=h;refine⟨u,o,e.trans q,?_⟩
  rcases r with⟨kvs,z,r⟩|⟨kvs,z,r⟩
  · exact .inl ⟨kvs,z,r.mono p k⟩
  · exact .inr ⟨kvs,z,r.mono p k⟩
 |dict l=>
  rcases h with⟨kvs,q,r⟩|⟨kvs,q,r⟩
  · exact .inl ⟨kvs,e.trans q,r.mono p k⟩
  · exact .inr ⟨kvs,e.trans q,r.mono p k⟩
 |obj c fs=>obtain⟨dx,gs,q,r,z⟩:=h;exact⟨dx,gs,e.trans q,r.mono p k,z⟩
theorem E3.mono{c:Cell}(h:E3 Γ m H a c)(p:Pre m m')(k:Keep m m' H H')(e:H' a=H a):E3 Γ m' H' a c:=h.mono' p k.im e
structure Sim(Γ:Gm)(ah:AH)(m:List Addr)(H:Hp):Prop where
 len:m.length=ah.length
 nd:m.Nodup
 cell:∀(n:Nat) (a:Addr) (c:Cell),m[n]? =some a->ah[n]? =some c->E3 Γ m H a c
section
variable{ah:AH}
theorem Sim.at(s:Sim Γ ah m H){c:Cell}(h:m[n]? =some a)(e:ah[n]? =some c):E3 Γ m H a c:=s.cell n a c h e
theorem Sim.has(s:Sim Γ ah m H)(h:m[n]? =some a):∃c,ah[n]? =some c:=by
 have h:=(ac.mp h).1
 rw[s.len] at h;exact⟨ah[n],af h⟩
theorem Sim.fresh(s:Sim Γ ah m H){p:Addr}(hp:H p=none):p∉m:=fun hm=>by
 obtain⟨n,hn⟩:=bj hm
 obtain⟨c,hc⟩:=s.has hn;obtain⟨o,e,_⟩:=(s.at hn hc).there;rw[hp] at e;cases e
theorem Sim.keep(s:Sim Γ ah m H)(k:Keep m m H H')(e:∀(n:Nat) (a:Addr),m[n]? =some a->H' a=H a):Sim Γ ah m H':=
 ⟨s.len,s.nd,fun n a c h q=>(s.at h q).mono (Pre.refl m) k (e n a h)⟩
theorem Sim.same(s:Sim Γ ah m H)(k:c1A H H'):Sim Γ ah m H':=
 s.keep ⟨fun b o _ h=>k b o h,fun b o _ h=>k b o h,fun _ h=>.inl h⟩ fun n a h=>by
  obtain⟨c,hc⟩:=s.has h;obtain⟨o,e,_⟩:=(s.at h hc).there;rw[e];exact k a o e
theorem Sim.new{p:Addr}{o:HO}(s:Sim Γ ah m H)(hp:H p=none):Sim Γ ah m (upd H p o):=s.same fun b ob h=>by rw[c9 (o4 h hp)];exact h
theorem a0L{m:List Addr}{p:Addr}(nd:m.Nodup)(hp:p∉m):(m++[p]).Nodup:=by
 rw[nodup_append];refine⟨nd,by simp,fun a ha b hb=>?_⟩
 simp at hb;subst hb
 rintro rfl;exact hp ha
theorem Sim.alloc{p:Addr}{o:HO}{c:Cell}(s:Sim Γ ah m H)(hp:H p=none)(h:E3 Γ (m++[p]) (upd H p o) p c):Sim Γ (ah++[c]) (m++[p]) (upd H p o):=by
 refine⟨by simp[s.len],a0L s.nd (s.fresh hp),fun n a c' hn hc=>?_⟩
 by_cases hl:n<m.length
 · rw[av hl] at hn
   rw[av (by rw[←s.len];exact hl)] at hc
   have ok:=s.at hn hc;refine ok.mono (Pre.snoc m p) (Keep.newc hp) ?_
   obtain⟨o',e,_⟩:=ok.there;rw[c9 (o4 e hp)]
 · have hn':n=m.length:=by
    have:=(ac.mp hn).1
    simp at this;omega
   subst hn';rw[aq (ai _)] at hn
   rw[s.len,aq (ai _)] at hc
   simp at hn hc;subst hn;subst hc
   exact h
theorem Sim.write{k:Nat}{q:Addr}{o:HO}{c:Cell}(s:Sim Γ ah m H)(hk:m[k]? =some q)(hq:H q=some o)(ni:¬Im o)(h:E3 Γ m (upd H q o') q c):Sim Γ (ah.set k c) m (upd H q o'):=by
  refine⟨by simp[s.len],s.nd,fun n a c' hn hc=>?_⟩
  by_cases e:n=k
  · subst e;rw[hk] at hn;cases hn
    rw[List.getElem?_set_self (by rw[←s.len];exact(ac.mp hk).1)] at hc
    cases hc;exact h
  · rw[List.getElem?_set_ne (Ne.symm e)] at hc
    have ne:a≠q:=fun z=>by subst z;exact e (nodup_ixA s.nd hn hk)
    exact(s.at hn hc).mono (Pre.refl m) (Keep.put hk hq ni) (c9 ne)
where
  nodup_ixA {m:List Addr} (hN:m.Nodup) {i j:Nat} {x:Addr} (a:m[i]? =some x) (b:m[j]? =some x):i=j:=by
    obtain⟨h1,e1⟩:=ac.mp a
    obtain⟨h2,e2⟩:=ac.mp b
    exact(getElem_inj hN).mp (e1.trans e2.symm)
theorem Sim.lst(s:Sim Γ ah m H){n:Nat}{l:List D}(e:ah[n]? =some (.lst l)){v:V}(r:Rp m H (.ref n) v):∃a vs,v=.ref a/\m[n]? =some a/\H a=some (.lst vs)/\Rps m H l vs:=by
 obtain⟨a,rfl,hm⟩:=r;obtain⟨vs,e1,e2⟩:=s.at hm e;exact⟨a,vs,rfl,hm,e1,e2⟩
theorem Sim.rdL(s:Sim Γ ah m H){l:List D}(e:rdL ah n=some l)(r:Rp m H (.ref n) v):∃a vs,v=.ref a/\m[n]? =some a/\SqL Γ.K H a vs/\Rps m H l vs:=by
 obtain⟨a,rfl,hm⟩:=r;unfold EV.rdL at e
 split at e
 · rename_i l' q;cases e;obtain⟨vs,e1,e2⟩:=s.at hm q;exact⟨a,vs,rfl,hm,.inl (.inl e1),e2⟩
 · rename_i l' q;cases e;obtain⟨vs,e1,e2,_⟩:=s.at hm q;exact⟨a,vs,rfl,hm,e1,e2⟩
 · cases e
end
abbrev n5:=List (Option D)
structure EnvRel(m:List Addr)(H:Hp)(env:n5)(σ:St):Prop where
 len:env.length=σ.length
 val:∀(i:Nat) (d:D),env[i]? =some (some d)->∃v,σ[i]? =some (some v)/\Rp m H d v
variable{env:n5}{σ:St}
theorem EnvRel.mono(h:EnvRel m H env σ)(p:Pre m m')(k:Keep m m' H H'):EnvRel m' H' env σ:=
 ⟨h.len,fun i d e=>let⟨v,a,b⟩:=h.val i d e;⟨v,a,b.mono p k⟩⟩
theorem EnvRel.set(h:EnvRel m H env σ){i:Nat}(r:Rp m H d v):EnvRel m H (env.set i (some d)) (σ.set i (some v)):=by
 refine⟨by simp[h.len],fun j d' e=>?_⟩
 by_cases q:j=i
 · subst q
   by_cases hl:j<env.length
   · rw[List.getElem?_set_self hl] at e
     cases e;exact⟨v,List.getElem?_set_self (by rw[←h.len];exact hl),r⟩
   · rw[aZ (by simp;omega)] at e;cases e
 · rw[List.getElem?_set_ne (Ne.symm q)] at e⊢
   exact h.val j d' e
structure Rel(Γ:Gm)(env:n5)(ah:AH)(σ:St)(H:Hp)(m:List Addr):Prop where
 sim:Sim Γ ah m H
 env:EnvRel m H env σ
def d5(Γ:Gm)(E:XK)(m:List Addr)(H:Hp)(r:R D)(Q:VK):Prop:=match r with
 |.ok d ah'=>∀m' H' v,Pre m m'->Keep m m' H H'->Sim Γ ah' m' H'->Rp m' H' d v->Q v H'
 |.no=>False
def f8{α:Type}(Γ:Gm)(E:XK)(m:List Addr)(H:Hp)(r:R α)(Q:α->AH->List Addr->Hp->Prop):Prop:=match r with
 |.ok a ah'=>∀m' H',Pre m m'->Keep m m' H H'->Sim Γ ah' m' H'->Q a ah' m' H'
 |.no=>False
variable{r:R D}{Q:VK}{α:Type}{β:Type}{ah:AH}
section
variable{E:XK}
theorem d5.later(h:d5 Γ E m H r Q)(p:Pre m m')(k:Keep m m' H H'):d5 Γ E m' H' r Q:=by
 cases r with
 |ok d ah=>exact fun m2 H2 v p2 k2 s2 r2=>h m2 H2 v (p.trans p2) (k.trans k2) s2 r2
 |no=>exact h
theorem d5.bind{r:R α}{f:α->AH->R D}(h:d5 Γ E m H (r.bind f) Q):f8 Γ E m H r (fun a ah1 m1 H1=>d5 Γ E m1 H1 (f a ah1) Q):=by
 cases r with
 |ok d ah=>exact fun m2 H2 p2 k2 s2=>d5.later h p2 k2
 |no=>exact h
theorem f8.later{r:R α}{Q:α->AH->List Addr->Hp->Prop}(h:f8 Γ E m H r Q)(p:Pre m m')(k:Keep m m' H H'):f8 Γ E m' H' r Q:=by
 cases r with
 |ok d ah=>exact fun m2 H2 p2 k2 s2=>h m2 H2 (p.trans p2) (k.trans k2) s2
 |no=>exact h
theorem f8.bind{r:R α}{f:α->AH->R β}{Q:β->AH->List Addr->Hp->Prop}(h:f8 Γ E m H (r.bind f) Q):f8 Γ E m H r (fun a ah1 m1 H1=>f8 Γ E m1 H1 (f a ah1) Q):=by
 cases r with
 |ok d ah=>exact fun m2 H2 p2 k2 s2=>f8.later h p2 k2
 |no=>exact h
theorem f8.val{P:D->AH->List Addr->Hp->Prop}(h:f8 Γ E m H r P)(k:∀d ah1 m1 H1 v,Pre m m1->Keep m m1 H H1->Sim Γ ah1 m1 H1->Rp m1 H1 d v->P d ah1 m1 H1->Q v H1):d5 Γ E m H r Q:=by
 cases r with
 |ok d ah=>exact fun m2 H2 v p2 k2 s2 r2=>k d ah m2 H2 v p2 k2 s2 r2 (h m2 H2 p2 k2 s2)
 |no=>exact h
theorem d5.ok(h:d5 Γ E m H (.ok d ah) Q)(s:Sim Γ ah m H)(r:Rp m H d v):Q v H:=h m H v (Pre.refl m) (Keep.refl m H) s r
theorem d5.newc{c:Cell}{p:Addr}{o:HO}(h:d5 Γ E m H (o5 c ah) Q)(s:Sim Γ ah m H)(hp:H p=none)(ok:E3 Γ (m++[p]) (upd H p o) p c):Q (.ref p) (upd H p o):=by
 refine h (m++[p]) (upd H p o) (.ref p) (Pre.snoc m p) (Keep.newc hp) (s.alloc hp ok) ⟨p,rfl,?_⟩
 rw[←s.len,aq (ai _)];simp
theorem d5.newt{l:List D}{p:Addr}(h:d5 Γ E m H (.ok (.tup l) ah) Q)(s:Sim Γ ah m H)(hp:H p=none)(r:Rps m H l vs):Q (.ref p) (upd H p (.tup vs)):=
 h m _ (.ref p) (Pre.refl m) (Keep.new hp) (s.new hp) ⟨p,vs,rfl,b8,r.mono (Pre.refl m) (Keep.new hp)⟩
end
open PySem PySem.Spec L2
open PyProof.Rows hiding St
theorem Q1:SL=sizeLine:=by rw[sizeLine_eq]
theorem a5M{l:List α}{x:α}(h:l[n]? =some x):l.set n x=l:=by
 refine ext_getElem? fun i=>?_
 by_cases e:i=n
 · subst e;rw[List.getElem?_set_self (ac.mp h).1,h]
 · rw[List.getElem?_set_ne (Ne.symm e)]
variable{op:CmpOp}{A:Around}{v':Value}{u':Value}{pins:List (Addr×Obj)}{kvs:List (D×D)}
section
variable{X:Cx}{E:XK}
noncomputable def rOf(Γ:Gm)(E:XK)(g:AH->D->D->R D):R2:=fun x y H Q=>∃d1 d2 ah m,Sim Γ ah m H/\Rp m H d1 x/\Rp m H d2 y/\d5 Γ E m H (g ah d1 d2) Q
theorem OpR.imp{f:Value->Value->Sem Value}{r r':R2}(h:OpR X f r)(i:∀x y H Q,r' x y H Q->r x y H Q):OpR X f r':=fun pins s σ H x y v u Q I rx ry q=>h pins s σ H x y v u Q I rx ry (i _ _ _ _ q)
theorem b9E:OpR X (binaryOp .Add) (rOf Γ E Y3):=by
 refine OpR.imp (b6s.or (a6T.or b6r)) ?_
 rintro x y H Q ⟨d1,d2,ah,m,s,r1,r2,q⟩;unfold Y3 at q
 split at q
 · cases r1;cases r2
   exact .inl ⟨_,_,rfl,rfl,q.ok s rfl⟩
 · cases r1;cases r2
   split at q
   · rename_i h;exact .inr (.inl ⟨_,_,rfl,rfl,by rw[←Q1];exact h,q.ok s rfl⟩)
   · exact q.elim
 · split at q
   · rename_i e1 e2
     split at q
     · rename_i h;obtain⟨a,vs,rfl,ha,h1,q1⟩:=s.lst e1 r1;obtain⟨b,ws,rfl,hb,h2,q2⟩:=s.lst e2 r2;refine .inr (.inr ⟨a,b,vs,ws,rfl,rfl,h1,h2,by rw[q1.len,q2.len,←Q1];exact h,fun p hp=>q.newc s hp ⟨_,b8,?_⟩⟩)
       exact(q1.app q2).mono (Pre.snoc m p) (Keep.newc hp)
     · exact q.elim
   · exact q.elim
 · exact q.elim
theorem b9x:OpR X (binaryOp .Sub) (rOf Γ E a5Y):=by
 refine OpR.imp b6l ?_
 rintro x y H Q ⟨d1,d2,ah,m,s,r1,r2,q⟩;unfold a5Y at q
 split at q
 · cases r1;cases r2
   exact⟨_,_,rfl,rfl,q.ok s rfl⟩
 · exact q.elim
theorem b9y:OpR X (binaryOp .Mult) (rOf Γ E U7):=by
 refine OpR.imp ((b6o.or b6m).or b3H) ?_
 rintro x y H Q ⟨d1,d2,ah,m,s,r1,r2,q⟩;unfold U7 at q
 split at q
 · cases r1;cases r2
   split at q
   · rename_i h;rw[Bool.or_eq_true] at h;exact .inl (.inl ⟨_,_,rfl,rfl,h.imp a2F a2F,q.ok s rfl⟩)
   · exact q.elim
 · split at q
   · rename_i e1
     split at q
     · rename_i h;obtain⟨a,vs,rfl,ha,h1,q1⟩:=s.lst e1 r1;cases r2;refine .inl (.inr ⟨a,_,vs,rfl,rfl,h1,(by have:=t9 h.1;omega),(by have:=t9 h.1;omega),by rw[q1.len,←Q1];exact h.2,fun p hp=>q.newc s hp ⟨_,b8,?_⟩⟩)
       exact(q1.rep _).mono (Pre.snoc m p) (Keep.newc hp)
     · exact q.elim
   · exact q.elim
 · cases r1;cases r2
   split at q
   · rename_i h;exact .inr ⟨_,_,rfl,rfl,(by have:=t9 h.1;omega),(by have:=t9 h.1;omega),by rw[←Q1];exact h.2,q.ok s rfl⟩
   · exact q.elim
 · exact q.elim
theorem b9C:OpR X (binaryOp .FloorDiv) (rOf Γ E D3):=by
 refine OpR.imp b3I ?_
 rintro x y H Q ⟨d1,d2,ah,m,s,r1,r2,q⟩;unfold D3 at q
 split at q
 · cases r1;cases r2
   split at q
   · rename_i h;exact⟨_,_,rfl,rfl,h,q.ok s rfl⟩
   · exact q.elim
 · exact q.elim
theorem b9z:OpR X (binaryOp .Mod) (rOf Γ E u0):=by
 refine OpR.imp b6p ?_
 rintro x y H Q ⟨d1,d2,ah,m,s,r1,r2,q⟩;unfold u0 at q
 split at q
 · cases r1;cases r2
   split at q
   · rename_i h;exact⟨_,_,rfl,rfl,h,q.ok s rfl⟩
   · exact q.elim
 · exact q.elim
theorem c1k{x y:V}{b:Bool}(h:b=true↔x=y):b=decide (x=y):=by
 by_cases e:x=y
 · rw[bm e];exact h.mpr e
 · rw[bB e]
   cases b with
   |false=>rfl
   |true=>exact absurd (h.mp rfl) e
theorem b2f{d1 d2:D}{x y:V}{b:Bool}(e:eqS d1 d2=some b)(r1:Rp m H d1 x)(r2:Rp m H d2 y):scal x y=true/\b=decide (x=y):=by
 unfold eqS at e
 split at e<;>first|(cases e;done)|(split at e<;>first|(cases e;done)|(cases e;cases r1;cases r2;refine⟨rfl,c1k ⟨fun h=>?_,fun h=>?_⟩⟩<;>first|(rw[aw h])|(injection h with h;exact bm h)))
theorem a8u{p:Int->Int->Bool}(h:OpR X (compareOp op) (rI0 fun i j=>.bl (p i j))):OpR X (compareOp op) (rOf Γ E (E8 p)):=by
 refine OpR.imp h ?_
 rintro x y H Q ⟨d1,d2,ah,m,s,r1,r2,q⟩;unfold E8 at q
 split at q
 · cases r1;cases r2
   exact⟨_,_,rfl,rfl,q.ok s rfl⟩
 · exact q.elim
theorem L8{x:V}(r:Rp m H d x)(f:B7 d=true):a0E x=true:=by
 cases d<;>first|(cases r;rfl)|(simp[B7] at f)
theorem M6{m:List Addr}{H:Hp}:∀{l:List D} {vs:List V},Rps m H l vs->l.all B7=true->vs.all a0E=true
 |[],vs,h,_=>by rw[show vs=[] from h];rfl
 |d::r,vs,⟨v,t,e,q1,q2⟩,f=>by
  subst e;rw[all_cons,ae] at f⊢;exact⟨L8 q1 f.1,M6 q2 f.2⟩
theorem b2h{e:D}{x y:V}(r1:Rp m H d x)(r2:Rp m H e y)(f1:B7 d=true)(f2:B7 e=true):eqF d e=eqV x y:=by
 cases d<;>first|(simp[B7] at f1;done)|(cases e<;>first|(simp[B7] at f2;done)|(cases r1;cases r2;rfl))
theorem Z9{m:List Addr}{H:Hp}{d:D}{x:V}(r:Rp m H d x)(f:B7 d=true):∀{l:List D} {vs:List V},Rps m H l vs->l.all B7=true->inD d l=inV x vs
 |[],vs,h,_=>by rw[show vs=[] from h];rfl
 |e::t,vs,⟨v,u,ev,q1,q2⟩,fl=>by
  subst ev;rw[all_cons,ae] at fl;have ih:=Z9 r f q2 fl.2;unfold inD inV at ih⊢;rw[any_cons,any_cons,b2h q1 r fl.1 f,ih]
theorem b2g(h:B7 d=true):eqF d d=true:=by cases d<;>simp_all [B7,eqF]
theorem hu1(h:n+8<cLine):n+1<cLine:=Nat.lt_of_le_of_lt (by omega) h
theorem b4r{s:Shared}{u:V}(f:B7 d=true)(r1:Rp m H d v)(r2:Rp m H d u)(rv:f6 v v')(ru:f6 u u'):SeqAt.EqAt A s v' u' true:=by
 have:=b2i (A:=A) (s:=s) rv ru (L8 r1 f) (L8 r2 f)
 rw[←b2h r1 r2 f f,b2g f] at this;exact this
theorem b1s{s:Shared}{l r:List D}{us:List V}{its its2:List Value}{f:D->D->Bool}(hs:(decide (l.length=r.length)&&(l.zip r).all fun p=>f p.1 p.2)=true)(r1:Rps m H l vs)(r2:Rps m H r us)(ra:i7 vs its)(rb:i7 us its2)(k:∀d e,f d e=true->∀v u v' u',Rp m H d v->Rp m H e u->f6 v v'->f6 u u'->SeqAt.EqAt A s v' u' true):
 its.toArray.size=its2.toArray.size/\∀j (h1:j<its.toArray.size) (h2:j<its2.toArray.size),SeqAt.EqAt A s its.toArray[j] its2.toArray[j] true:=by
 rw[ae] at hs;have e0:=aw hs.1;have e1:=ra.length;have e2:=rb.length;have e3:=r1.len;have e4:=r2.len;refine⟨by simp only[size_toArray];omega,fun j h1 h2=>?_⟩
 simp only[size_toArray] at h1 h2
 have hj:j<l.length:=by omega
 have hj':j<r.length:=by omega
 obtain⟨v,g1,p1⟩:=r1.get (af hj)
 obtain⟨u,g2,p2⟩:=r2.get (af hj')
 obtain⟨v',g3,p3⟩:=ra.get g1;obtain⟨u',g4,p4⟩:=rb.get g2
 have:=k l[j] r[j] (bu.mp hs.2 (l[j],r[j]) (List.mem_iff_getElem?.mpr ⟨j,List.getElem?_zip_eq_some.mpr ⟨af hj,af hj'⟩⟩)) v u v' u' p1 p2 p3 p4
 rw[af h1] at g3
 rw[af h2] at g4
 cases g3;cases g4
 simpa using this
theorem b9o{s:Shared}{e:D}{u:V}(f:(decide (d=e)&&B7 d)=true)(r1:Rp m H d v)(r2:Rp m H e u)(rv:f6 v v')(ru:f6 u u'):SeqAt.EqAt A s v' u' true:=by
 rw[ae] at f
 cases aw f.1
 exact b4r f.2 r1 r2 rv ru
def b5K(Γ:Gm):R2:=fun x y H Q=>∃l d m,Rp m H (.tup l) x/\Rp m H d y/\a7G (.tup l) d=true/\Q (.bl false) H
theorem b6n(hu:X.A.units+8<cLine)(hK:X.K=Γ.K):OpR X (compareOp .NotEq) (b5K Γ):=by
 intro pins s σ H x y v u Q I rx ry h;obtain⟨l,d,m,r1,r2,f,q⟩:=h;unfold a7G at f
 simp only at f
 split at f
 · obtain⟨a,vs,rfl,ha,rs⟩:=r1;obtain⟨b,us,rfl,hb,rt⟩:=r2;cases rx;cases ry;obtain⟨_,its,ra,pa⟩:=I.hok a _ ha;obtain⟨_,its2,rb,pb⟩:=I.hok b _ hb;obtain⟨sz,el⟩:=b1s (A:=X.A.in1) (s:=s) f rs rt ra rb fun d e f v u v' u' p1 p2 p3 p4=>b9o f p1 p2 p3 p4
   refine SeqAt.RcNeAt.tuples (e:=fun _=>true) (show s.heap.IsTuple a its.toArray from pa.tup) (show s.heap.IsTuple b its2.toArray from pb.tup) (by omega) el X.prog X.w _ _ ⟨.bl _,H,I,rfl,?_⟩
   rw[show(!((List.range (min its.toArray.size its2.toArray.size)).all (fun _=>true)&&its.toArray.size==its2.toArray.size))=false by rw[sz];simp]
   exact q
 · cases f
theorem c1j:OpR X (compareOp .Eq) (rOf Γ E K0):=by
 refine OpR.imp b8K ?_
 rintro x y H Q ⟨d1,d2,ah,m,s,r1,r2,q⟩;unfold K0 at q
 split at q
 · rename_i c e;obtain⟨h1,h2⟩:=b2f e r1 r2;exact⟨h1,by rw[←h2];exact q.ok s rfl⟩
 · exact q.elim
theorem c1h(hu:X.A.units+8<cLine)(hK:X.K=Γ.K):OpR X (compareOp .NotEq) (rOf Γ E a1g):=by
 refine OpR.imp (b8F.or (b6n hu hK)) ?_
 rintro x y H Q ⟨d1,d2,ah,m,s,r1,r2,q⟩;unfold a1g at q
 split at q
 · rename_i c e;obtain⟨h1,h2⟩:=b2f e r1 r2;exact .inl ⟨h1,by rw[←h2];exact q.ok s rfl⟩
 · split at q
   · rename_i hd
     cases d1<;>first|exact .inr ⟨_,_,_,r1,r2,hd,q.ok s rfl⟩|cases hd
   · exact q.elim
theorem b5H{s:Shared}(I:Inv X pins σ H s)(h:H a=some (.dK [])):Inv X pins σ (upd H a (.dT [])) s:=by
 obtain⟨z,hd,vs,rel,o,es,ep,ho,hx,hdt,hes,hp,hh⟩:=I.hok a _ h;cases rel
 have e0:es.toList=[]:=by cases q:es.toList with
  |nil=>rfl
  |cons x r=>rw[q] at hp;cases hp
 exact I.write (x:=a) (e:=a) (h':=s.heap) (t':=s.toks) (by rw[h];trivial) (.inl rfl) (fun b u _ q=>q) ⟨o,ho⟩ ⟨z,hd,[],.nil,o,es,ep,ho,hx,hdt,e0,nodup_nil⟩
theorem b5I{s:Shared}(I:Inv X pins σ H s)(h:H a=some (.dT [])):Inv X pins σ (upd H a (.dK [])) s:=by
 obtain⟨z,hd,xs,rel,o,es,ep,ho,hx,hdt,hes,hh⟩:=I.hok a _ h;cases rel
 have e0:es= #[]:=Array.toList_inj.mp hes
 subst e0;refine I.write (x:=a) (e:=a) (h':=s.heap) (t':=s.toks) (by rw[h];trivial) (.inl rfl) (fun b u _ q=>q) ⟨o,ho⟩ ⟨z,hd,[],.nil,o,#[],ep,ho,hx,hdt,fun e he=>?_,.nil,nodup_nil⟩
 simp at he
theorem a0q{k:Key}(e:E9 d=some k)(r:Rp m H d v):v=kV k:=by
 cases d<;>simp only[E9] at e<;>first|(cases e;done)|(cases e;cases r;rfl)
theorem a1k{m:List Addr}{H:Hp}:∀{l:List D} {vs:List V} {ks:List Key},u7 l=some ks->Rps m H l vs->vs=ks.map kV
 |[],vs,ks,e,h=>by cases e;exact h
 |d::r,vs,ks,e,⟨v,t,ev,q1,q2⟩=>by
  subst ev;unfold u7 at e
  split at e
  · rename_i k ks' e1 e2;cases e;rw[map_cons,a0q e1 q1,a1k e2 q2]
  · cases e
theorem Z6{a b:D}{k:Key}(h1:E9 a=some k)(h2:E9 b=some k):a=b:=by
 cases a<;>simp only[E9] at h1<;>first|(cases h1;done)|(cases h1;cases b<;>simp only[E9] at h2<;>first|(cases h2;done)|(cases h2;rfl))
theorem a0p:∀{a b:List D} {k:List Key},u7 a=some k->u7 b=some k->a=b
 |[],[],_,_,_=>rfl
 |[],y::ys,k,h1,h2=>by
  cases h1;unfold u7 at h2
  split at h2<;>cases h2
 |x::xs,[],k,h1,h2=>by
  cases h2;unfold u7 at h1
  split at h1<;>cases h1
 |x::xs,y::ys,k,h1,h2=>by
  unfold u7 at h1 h2
  split at h1
  · rename_i k1 ks1 e1 e2;cases h1
    split at h2
    · rename_i k2 ks2 e3 e4;cases h2;rw[Z6 e1 e3,a0p e2 e4]
    · cases h2
  · cases h1
theorem a4T(h:L7 d=some false):∃k,E9 d=some k:=by
 cases d<;>simp only[L7] at h<;>first|(cases h;done)|exact⟨_,rfl⟩|(split at h<;>cases h)
theorem a2Y(h:L7 d=some true):∃l ks,d=.tup l/\u7 l=some ks:=by
 cases d<;>simp only[L7] at h<;>first|(cases h;done)|skip
 rename_i l
 split at h
 · rename_i e;obtain⟨ks,hk⟩:=Option.isSome_iff_exists.mp e;exact⟨l,ks,rfl,hk⟩
 · cases h
theorem DK.val{kvs:List (Key×V)}(r:DK m H l kvs){k:Key}(e:E9 d=some k):
 (∀c,k8 l d=some c->∃v,U4 kvs k=some v/\Rp m H c v)/\(k8 l d=none->U4 kvs k=none):=by
 induction r with
 |nil=>exact⟨fun c h=>(by cases h),fun _=>rfl⟩
 | @cons p q ps qs h t ih=>
  by_cases z:p.1=d
  · have z':q.1=k:=by have:=h.1;rw[z,e] at this;exact(ax this).symm
    rw[Y7 z',show k8 (p::ps) d=some p.2 from by simp[k8,List.find?_cons,z]]
    exact⟨fun c hc=>by cases hc;exact⟨q.2,rfl,h.2⟩,fun hc=>by cases hc⟩
  · have z':¬q.1=k:=fun y=>z (Z6 (by rw[h.1,y]) e)
    rw[Y8 z',show k8 (p::ps) d=k8 ps d from by simp[k8,List.find?_cons,z]]
    exact ih
theorem DT.val{kvs:List (List Key×V)}(r:DT m H l kvs){d:List D}{k:List Key}(e:u7 d=some k):
 (∀c,k8 l (.tup d)=some c->∃v,U4 kvs k=some v/\Rp m H c v)/\(k8 l (.tup d)=none->U4 kvs k=none):=by
 induction r with
 |nil=>exact⟨fun c h=>(by cases h),fun _=>rfl⟩
 | @cons p q ps qs h t ih=>
  obtain⟨⟨l',e1,e2⟩,h2⟩:=h
  by_cases z:p.1=.tup d
  · have z':q.1=k:=by rw[e1] at z;injection z with z;rw[z,e] at e2;exact(ax e2).symm
    rw[Y7 z',show k8 (p::ps) (.tup d)=some p.2 from by simp[k8,List.find?_cons,z]]
    exact⟨fun c hc=>by cases hc;exact⟨q.2,rfl,h2⟩,fun hc=>by cases hc⟩
  · have z':¬q.1=k:=fun y=>z (e1.trans (congrArg D.tup (a0p (e2.trans (congrArg some y)) e)))
    rw[Y8 z',show k8 (p::ps) (.tup d)=k8 ps (.tup d) from by simp[k8,List.find?_cons,z]]
    exact ih
theorem DK.put {kvs:List (Key×V)} (r:DK m H l kvs) {c:D} {k:Key} (e:E9 d=some k) (rv:Rp m H c v):DK m H (a0K l d c) (N6 kvs k v):=by
 have any:(l.any fun p=>decide (p.1=d))=kvs.any fun p=>decide (p.1=k):=by
  induction r with
  |nil=>rfl
  | @cons p q ps qs h t ih=>
   rw[any_cons,any_cons,ih];congr 1;refine decide_eq_decide.mpr ⟨fun(z:p.1=d)=>?_,fun(z:q.1=k)=>Z6 (by rw[h.1,z]) e⟩
   have:=h.1;rw[z,e] at this;exact(ax this).symm
 unfold a0K N6;rw[any]
 split
 · clear any
   induction r with
   |nil=>exact .nil
   | @cons p q ps qs h t ih=>
    rename_i hh;rw[map_cons,map_cons];refine .cons ?_ ?_
    · by_cases z:p.1=d
      · have z':q.1=k:=by have:=h.1;rw[z,e] at this;exact(ax this).symm
        rw[ay z,ay z'];exact⟨h.1,rv⟩
      · have z':¬q.1=k:=fun y=>z (Z6 (by rw[h.1,y]) e)
        rw[az z,az z'];exact h
    · clear hh ih h
      induction t with
      |nil=>exact .nil
      | @cons p q ps qs h t ih=>
       rw[map_cons,map_cons];refine .cons ?_ ih
       by_cases z:p.1=d
       · have z':q.1=k:=by have:=h.1;rw[z,e] at this;exact(ax this).symm
         rw[ay z,ay z'];exact⟨h.1,rv⟩
       · have z':¬q.1=k:=fun y=>z (Z6 (by rw[h.1,y]) e)
         rw[az z,az z'];exact h
 · exact Paired.snoc r ⟨e,rv⟩
theorem DT.put{kvs:List (List Key×V)}(r:DT m H l kvs){d:List D}{c:D}{k:List Key}(e:u7 d=some k)(rv:Rp m H c v):DT m H (a0K l (.tup d) c) (N6 kvs k v):=by
 have one:∀{p:D×D} {q:List Key×V},(∃l,p.1=.tup l/\u7 l=some q.1)->(p.1=.tup d↔q.1=k):=by
  rintro p q ⟨l',e1,e2⟩;refine⟨fun(z:p.1=.tup d)=>?_,fun(z:q.1=k)=>e1.trans (congrArg D.tup (a0p (e2.trans (congrArg some z)) e))⟩
  rw[e1] at z;injection z with z;rw[z,e] at e2;exact(ax e2).symm
 have any:(l.any fun p=>decide (p.1=.tup d))=kvs.any fun p=>decide (p.1=k):=by
  induction r with
  |nil=>rfl
  | @cons p q ps qs h t ih=>
   rw[any_cons,any_cons,ih];congr 1;exact decide_eq_decide.mpr (one h.1)
 unfold a0K N6;rw[any]
 split
 · have go:∀{l:List (D×D)} {kvs:List (List Key×V)},DT m H l kvs->DT m H (l.map fun p=>if p.1=.tup d then(p.1,c) else p) (kvs.map fun p=>if p.1=k then(p.1,v) else p):=by
    intro l kvs r
    induction r with
    |nil=>exact .nil
    | @cons p q ps qs h t ih=>
     rw[map_cons,map_cons];refine .cons ?_ ih
     by_cases z:p.1=.tup d
     · rw[ay z,ay ((one h.1).mp z)];exact⟨h.1,rv⟩
     · rw[az z,az fun y=>z ((one h.1).mpr y)];exact h
   exact go r
 · exact Paired.snoc r ⟨⟨d,rfl,e⟩,rv⟩
theorem a1X{k:D}(S:Sim Γ ah m H)(e:ah[n]? =some (.dict kvs))(ok:z7 k kvs=true)(hm:m[n]? =some a):
 ∃H',(∀pins σ s,Inv X pins σ H s->Inv X pins σ H' s)/\Keep m m H H'/\Sim Γ ah m H'/\((∃ks gs,E9 k=some ks/\H' a=some (.dK gs)/\DK m H' kvs gs)∨∃l ks gs,k=.tup l/\u7 l=some ks/\H' a=some (.dT gs)/\DT m H' kvs gs):=by
 unfold z7 at ok;rw[ae] at ok;obtain⟨ok1,ok2⟩:=ok;obtain⟨b,hb⟩:=Option.isSome_iff_exists.mp ok1
 rcases S.at hm e with⟨gs,h1,h2⟩|⟨gs,h1,h2⟩
 · cases b with
   |false=>
    obtain⟨ks,hk⟩:=a4T hb;exact⟨H,fun _ _ _ I=>I,Keep.refl m H,S,.inl ⟨ks,gs,hk,h1,h2⟩⟩
   | true=>
    obtain⟨l,ks,rfl,hk⟩:=a2Y hb
    cases h2 with
    |nil=>
     have kp:Keep m m H (upd H a (.dT [])):=Keep.put hm h1 fun z=>z
     have S':=S.write (o':=.dT []) (c:=.dict []) hm h1 (fun z=>z) (.inr ⟨[],b8,.nil⟩)
     rw[show ah.set n (.dict [])=ah from a5M e] at S';exact⟨_,fun _ _ _ I=>b5H I h1,kp,S',.inr ⟨l,ks,[],rfl,hk,b8,.nil⟩⟩
    | @cons p q ps qs h t=>
     rw[all_cons,ae,hb] at ok2
     exfalso
     have:=eq_of_beq ok2.1
     obtain⟨l',ks',e1,_⟩:=a2Y this;have h1:=h.1;rw[e1] at h1;cases h1
 · cases b with
   |true=>
    obtain⟨l,ks,rfl,hk⟩:=a2Y hb;exact⟨H,fun _ _ _ I=>I,Keep.refl m H,S,.inr ⟨l,ks,gs,rfl,hk,h1,h2⟩⟩
   | false=>
    obtain⟨ks,hk⟩:=a4T hb
    cases h2 with
    |nil=>
     have kp:Keep m m H (upd H a (.dK [])):=Keep.put hm h1 fun z=>z
     have S':=S.write (o':=.dK []) (c:=.dict []) hm h1 (fun z=>z) (.inl ⟨[],b8,.nil⟩)
     rw[show ah.set n (.dict [])=ah from a5M e] at S';exact⟨_,fun _ _ _ I=>b5I I h1,kp,S',.inl ⟨ks,[],hk,b8,.nil⟩⟩
    | @cons p q ps qs h t=>
     rw[all_cons,ae,hb] at ok2
     exfalso
     have:=eq_of_beq ok2.1
     obtain⟨ks',hk'⟩:=a4T this;obtain⟨⟨l',e1,_⟩,_⟩:=h;rw[e1] at hk';cases hk'
theorem R8{s:Shared}{k:D}(I:Inv X pins σ H s)(S:Sim Γ ah m H)(e:ah[n]? =some (.dict kvs))(ok:z7 k kvs=true)(hm:m[n]? =some a):
 ∃H',Inv X pins σ H' s/\Keep m m H H'/\Sim Γ ah m H'/\((∃ks gs,E9 k=some ks/\H' a=some (.dK gs)/\DK m H' kvs gs)∨∃l ks gs,k=.tup l/\u7 l=some ks/\H' a=some (.dT gs)/\DT m H' kvs gs):=
 let⟨H',f,r⟩:=a1X (X:=X) S e ok hm
 ⟨H',f _ _ _ I,r⟩
end
variable{h:AH}{ds:List D}
section
variable{X:Cx}{E:XK}
theorem a3j(b:Bool):(b !=false)=b:=by cases b<;>rfl
theorem a3i(b:Bool):(b !=true)=!b:=by cases b<;>rfl
theorem DK.some_eq{kvs:List (Key×V)}(r:DK m H l kvs){k:Key}(e:E9 d=some k):(k8 l d).isSome=(U4 kvs k).isSome:=by
 obtain⟨h1,h2⟩:=r.val e
 cases q:k8 l d with
 |none=>rw[h2 q];rfl
 |some c=>obtain⟨v,hv,_⟩:=h1 c q;rw[hv];rfl
theorem DT.some_eq{kvs:List (List Key×V)}(r:DT m H l kvs){d:List D}{k:List Key}(e:u7 d=some k):(k8 l (.tup d)).isSome=(U4 kvs k).isSome:=by
 obtain⟨h1,h2⟩:=r.val e
 cases q:k8 l (.tup d) with
 |none=>rw[h2 q];rfl
 |some c=>obtain⟨v,hv,_⟩:=h1 c q;rw[hv];rfl
theorem a1r{k:D}{x:V}(kp:Keep m m H H')(r:Rp m H k x)
 (h:(∃ks gs,E9 k=some ks/\H' a=some (.dK gs)/\DK m H' kvs gs)∨∃l ks gs,k=.tup l/\u7 l=some ks/\H' a=some (.dT gs)/\DT m H' kvs gs):
 ∃o,a7x H' a x o/\(k8 kvs k).isSome=o.isSome/\∀c,k8 kvs k=some c->∃v,o=some v/\Rp m H' c v:=by
 rcases h with⟨ks,gs,hk,ha,dk⟩|⟨l,ks,gs,rfl,hk,ha,dt⟩
 · obtain⟨h1,h2⟩:=dk.val hk;exact⟨U4 gs ks,.inl ⟨gs,ks,.inl ha,a0q hk r,rfl⟩,dk.some_eq hk,fun c hc=>h1 c hc⟩
 · obtain⟨h1,h2⟩:=dt.val hk;obtain⟨b,vs,rfl,hb,rs⟩:=r;have hv:=a1k hk rs;subst hv;exact⟨U4 gs ks,.inr ⟨gs,ks,b,.inl ha,rfl,kp.tup hb,rfl⟩,dt.some_eq hk,fun c hc=>h1 c hc⟩
theorem c1i(hu:X.A.units+8<cLine)(hK:X.K=Γ.K):OpR X (compareOp .In) (rOf Γ E (V9 false)):=by
 rintro pins s σ H x y v u Q I rx ry ⟨d1,d2,ah,m,S,r1,r2,q⟩;unfold V9 at q
 split at q
 · cases r1;cases r2
   rw[a3j] at q;exact a9c pins s σ H _ _ v u Q I rx ry ⟨_,_,rfl,rfl,q.ok S rfl⟩
 · split at q
   · rename_i h;rw[ae] at h;obtain⟨a,vs,rfl,h1,q1⟩:=r2;refine a0n pins s σ H _ _ v u Q I rx ry ⟨a,vs,rfl,.inr (.inl (.inl h1)),L8 r1 h.1,M6 q1 h.2,?_⟩
     rw[a3j,Z9 r1 h.1 q1 h.2] at q;exact q.ok S rfl
   · exact q.elim
 · split at q
   · rename_i xs e
     split at q
     · rename_i h;rw[ae] at h;obtain⟨a,vs,rfl,_,h1,q1⟩:=S.lst e r2;refine a0n pins s σ H _ _ v u Q I rx ry ⟨a,vs,rfl,.inl (.inl (.inl h1)),L8 r1 h.1,M6 q1 h.2,?_⟩
       rw[a3j,Z9 r1 h.1 q1 h.2] at q;exact q.ok S rfl
     · exact q.elim
   · rename_i xs e
     split at q
     · rename_i h;rw[ae] at h;obtain⟨a,vs,rfl,_,h1,q1⟩:=S.rdL (l:=xs) (by unfold rdL;rw[e]) r2
       refine a0n pins s σ H _ _ v u Q I rx ry ⟨a,vs,rfl,.inl (by rw[hK];exact h1),L8 r1 h.1,M6 q1 h.2,?_⟩
       rw[a3j,Z9 r1 h.1 q1 h.2] at q;exact q.ok S rfl
     · exact q.elim
   · rename_i kvs e
     split at q
     · rename_i h;obtain⟨a,rfl,hm⟩:=r2;obtain⟨H',I',kp,S',hd⟩:=R8 I S e h hm;obtain⟨o,g,h1,_⟩:=a1r kp r1 hd
       cases (show u=Value.ref a from ry)
       refine c1l (hu1 hu) I' g rx fun s' I''=>⟨.bl o.isSome,H',I'',rfl,?_⟩
       rw[a3j,h1] at q;exact q m H' _ (Pre.refl m) kp S' rfl
     · exact q.elim
   · exact q.elim
 · exact q.elim
theorem b4G(hu:X.A.units+8<cLine)(hK:X.K=Γ.K):OpR X (compareOp .NotIn) (rOf Γ E (V9 true)):=by
 rintro pins s σ H x y v u Q I rx ry ⟨d1,d2,ah,m,S,r1,r2,q⟩;unfold V9 at q
 split at q
 · cases r1;cases r2
   rw[a3i] at q;exact a4H pins s σ H _ _ v u Q I rx ry ⟨_,_,rfl,rfl,q.ok S rfl⟩
 · split at q
   · rename_i h;rw[ae] at h;obtain⟨a,vs,rfl,h1,q1⟩:=r2;refine N9 pins s σ H _ _ v u Q I rx ry ⟨a,vs,rfl,.inr (.inl (.inl h1)),L8 r1 h.1,M6 q1 h.2,?_⟩
     rw[a3i,Z9 r1 h.1 q1 h.2] at q;exact q.ok S rfl
   · exact q.elim
 · split at q
   · rename_i xs e
     split at q
     · rename_i h;rw[ae] at h;obtain⟨a,vs,rfl,_,h1,q1⟩:=S.lst e r2;refine N9 pins s σ H _ _ v u Q I rx ry ⟨a,vs,rfl,.inl (.inl (.inl h1)),L8 r1 h.1,M6 q1 h.2,?_⟩
       rw[a3i,Z9 r1 h.1 q1 h.2] at q;exact q.ok S rfl
     · exact q.elim
   · rename_i xs e
     split at q
     · rename_i h;rw[ae] at h;obtain⟨a,vs,rfl,_,h1,q1⟩:=S.rdL (l:=xs) (by unfold rdL;rw[e]) r2
       refine N9 pins s σ H _ _ v u Q I rx ry ⟨a,vs,rfl,.inl (by rw[hK];exact h1),L8 r1 h.1,M6 q1 h.2,?_⟩
       rw[a3i,Z9 r1 h.1 q1 h.2] at q;exact q.ok S rfl
     · exact q.elim
   · rename_i kvs e
     split at q
     · rename_i h;obtain⟨a,rfl,hm⟩:=r2;obtain⟨H',I',kp,S',hd⟩:=R8 I S e h hm;obtain⟨o,g,h1,_⟩:=a1r kp r1 hd
       cases (show u=Value.ref a from ry)
       refine b4K (hu1 hu) I' g rx fun s' I''=>⟨.bl (!o.isSome),H',I'',rfl,?_⟩
       rw[a3i,h1] at q;exact q m H' _ (Pre.refl m) kp S' rfl
     · exact q.elim
   · exact q.elim
 · exact q.elim
noncomputable def B.cmp:B->Option CmpOp
 |.eq=>some .Eq|.ne=>some .NotEq|.lt=>some .Lt|.le=>some .LtE|.gt=>some .Gt|.ge=>some .GtE|.isin=>some .In|.notin=>some .NotIn
 |_=>none
noncomputable def B.bin:B->Option Operator
 |.add=>some .Add|.sub=>some .Sub|.mul=>some .Mult|.div=>some .FloorDiv|.mod=>some .Mod
 |_=>none
theorem b9D{o:B}{op:Operator}(h:o.bin=some op):OpR X (binaryOp op) (rOf Γ E (op2 o)):=by
 cases o<;>cases h
 · exact b9E
 · exact b9x
 · exact b9y
 · exact b9C
 · exact b9z
theorem a1F(hu:X.A.units+8<cLine)(hK:X.K=Γ.K){o:B}(h:o.cmp=some op):OpR X (compareOp op) (rOf Γ E (op2 o)):=by
 cases o<;>cases h
 · exact c1j
 · exact c1h hu hK
 · exact a8u b8G
 · exact a8u b8H
 · exact a8u b8I
 · exact a8u b8J
 · exact c1i hu hK
 · exact b4G hu hK
theorem b9A (hu:X.A.units+8<cLine) (hK:X.K=Γ.K):IxR X (rOf Γ E ixD):=by
  rintro value slice pins s σ H x y v u Q I rx ry ⟨d1,d2,ah,m,S,r1,r2,q⟩ hs;unfold ixD at q
  split at q
  · split at q
    · rename_i d e;obtain⟨a,vs,rfl,h1,q1⟩:=r1;cases r2;obtain⟨w,hw,rw'⟩:=q1.at e;exact ix_tup value slice pins s σ H _ _ v u Q I rx ry ⟨a,vs,_,w,rfl,rfl,.inl (.inl h1),hw,q.ok S rw'⟩ hs
    · exact q.elim
  · split at q
    · rename_i hl
      split at q
      · rename_i c e
        cases r1;cases r2
        exact ix_str value slice pins s σ H _ _ v u Q I rx ry ⟨_,_,c,rfl,rfl,by rw[←Q1];exact hl,e,q.ok S rfl⟩ hs
      · exact q.elim
    · exact q.elim
  · split at q
    · rename_i xs e
      split at q
      · split at q
        · rename_i d e2;obtain⟨a,vs,rfl,_,h1,q1⟩:=S.lst e r1;cases r2;obtain⟨w,hw,rw'⟩:=q1.at e2;exact a8c value slice pins s σ H _ _ v u Q I rx ry ⟨a,vs,_,w,rfl,rfl,.inl (.inl h1),hw,q.ok S rw'⟩ hs
        · exact q.elim
      · exact q.elim
    · rename_i xs e
      split at q
      · split at q
        · rename_i d e2;obtain⟨a,vs,rfl,_,h1,q1⟩:=S.rdL (l:=xs) (by unfold rdL;rw[e]) r1
          cases r2;obtain⟨w,hw,rw'⟩:=q1.at e2;exact a8c value slice pins s σ H _ _ v u Q I rx ry ⟨a,vs,_,w,rfl,rfl,by rw[hK];exact h1,hw,q.ok S rw'⟩ hs
        · exact q.elim
      · exact q.elim
    · rename_i kvs e
      split at q
      · rename_i h
        split at q
        · rename_i d e2;obtain⟨a,rfl,hm⟩:=r1;obtain⟨H',I',kp,S',hd⟩:=R8 I S e h hm;obtain⟨o,g,h1,h2⟩:=a1r kp r2 hd;obtain⟨w,hw,rw'⟩:=h2 d e2;subst hw
          cases (show v=Value.ref a from rx)
          refine ixd_tail (a6t I' g) hs ?_
          exact a9x (hu1 hu) I' g ry fun w' s' I'' r''=>⟨w,H',I'',r'',q m H' _ (Pre.refl m) kp S' rw'⟩
        · exact q.elim
      · exact q.elim
    · exact q.elim
  · exact q.elim
where
  ixd_tail {value slice:Expr} {v u:Value} {Q:Value->Shared->Prop} {s:Shared} (hT:s.TypeIs v "dict") (hs:subscripted slice false v u=operate [v,u] (getItem v u)) (h:wpAny (model X.prog X.w) X.A (getItem v u) Q X.xe s):
      wpAny (model X.prog X.w) X.A (subscriptTail value slice v u) Q X.xe s:=by
    unfold subscriptTail;refine wpAny_bind ?_
    rw[getitemInPython_of_ne hT.not_modules];refine wpAny_bind (wpAny_specialOf hT PySem.F.slot_dict_getitem.lookup ?_)
    have fin:wpAny (model X.prog X.w) X.A (subscripted slice false v u) (fun r s₃=>wpAny (model X.prog X.w) X.A (letTemporaryGo value v r>>=fun _=>pure r) Q X.xe s₃) X.xe s:=by
      rw[hs];exact wpAny_operating (wpAny_mono h (fun r s₃ h₃=>wpAny_bind (wpAny_letTemporaryGo (wpAny_pure h₃))) fun _ _ x=>x)
    first
      |exact wpAny_pure (wpAny_bind fin)
      |exact wpAny_bind (wpAny_pure (wpAny_bind fin))
      |exact wpAny_bind fin
theorem c1g(hK:X.K=Γ.K):SlR X (fun x lo hi H Q=>∃d ah m,Sim Γ ah m H/\Rp m H d x/\d5 Γ E m H (slD ah lo hi d) Q):=by
 rintro pins s σ H x v vl vu lo hi sl Q I rx hs pl pu ⟨d,ah,m,S,r,q⟩;unfold slD at q
 split at q
 · split at q
   · rename_i hl;cases r;exact b5C pins s σ H _ v vl vu lo hi sl Q I rx hs pl pu ⟨_,rfl,by rw[←Q1];exact hl,q.ok S rfl⟩
   · exact q.elim
 · split at q
   · exact q.elim
   · rename_i hw;obtain⟨a,vs,rfl,h1,q1⟩:=r;refine b5B pins s σ H _ v vl vu lo hi sl Q I rx hs pl pu ⟨a,vs,rfl,.inl (.inl h1),by rw[q1.len];exact hw,fun p hp=>q.newt S hp (q1.cut lo hi)⟩
 · split at q
   · rename_i xs e;obtain⟨a,vs,rfl,_,h1,q1⟩:=S.rdL e r;refine b2Z pins s σ H _ v vl vu lo hi sl Q I rx hs pl pu ⟨a,vs,rfl,by rw[hK];exact h1,fun p hp=>q.newc S hp ⟨_,b8,(q1.cut lo hi).mono (Pre.snoc m p) (Keep.newc hp)⟩⟩
   · exact q.elim
 · exact q.elim
def rBi(Γ:Gm)(E:XK)(b:Bi):List V->Hp->VK->Prop:=fun xs H Q=>∃ds ah m,Sim Γ ah m H/\Rps m H ds xs/\d5 Γ E m H (biD b ah ds) Q
theorem T9{xs:List V}(h:Rps m H [d] xs):∃x,xs=[x]/\Rp m H d x:=by
 obtain⟨v,t,rfl,q,e⟩:=h;exact⟨v,by rw[show t=[] from e],q⟩
theorem b5G{e:D}{xs:List V}(h:Rps m H [d,e] xs):∃x y,xs=[x,y]/\Rp m H d x/\Rp m H e y:=by
 obtain⟨v,t,rfl,q,h2⟩:=h;obtain⟨y,rfl,q2⟩:=T9 h2;exact⟨v,y,rfl,q,q2⟩
theorem b9O(hK:X.K=Γ.K):C6 X (.builtin "len") (rBi Γ E .len):=by
 rintro pins s σ H xs us Q I r ⟨ds,ah,m,S,rs,q⟩;unfold biD at q
 split at q
 · obtain⟨x,rfl,r1⟩:=T9 rs;cases r1
   simp only at q
   split at q
   · rename_i hl;exact a5r pins s σ H _ us Q I r ⟨_,rfl,by rw[←Q1];exact hl,q.ok S rfl⟩
   · exact q.elim
 · obtain⟨x,rfl,a,vs,rfl,h1,q1⟩:=T9 rs;exact a1u pins s σ H _ us Q I r ⟨a,vs,rfl,.inr (.inl (.inl h1)),by rw[q1.len];exact q.ok S rfl⟩
 · exact q.elim
 · exact q.elim
 · rename_i n;obtain⟨x,rfl,r1⟩:=T9 rs
   split at q
   · rename_i kvs e
     simp only at q
     split at q
     · rename_i h;obtain⟨a,rfl,hm⟩:=r1;obtain⟨H',I',kp,S',hd⟩:=R8 I S e h hm
       rcases hd with⟨ks,gs,hk,ha,dk⟩|⟨l,ks,gs,e0,_⟩
       · obtain⟨u,rfl,ru⟩:=Q0 r
         cases (show u=Value.ref a from ru)
         refine b9I I' (.inl ha) fun t s' I''=>⟨.int gs.length,H',I'',⟨t,rfl⟩,?_⟩
         rw[←Paired.length dk];exact q m H' _ (Pre.refl m) kp S' rfl
       · cases e0
     · exact q.elim
   · split at q
     · rename_i ys e
       simp only at q
       obtain⟨a,vs,rfl,_,h1,q1⟩:=S.rdL e r1;exact a1u pins s σ H _ us Q I r ⟨a,vs,rfl,.inl (by rw[hK];exact h1),by rw[q1.len];exact q.ok S rfl⟩
     · exact q.elim
 · exact q.elim
 · exact q.elim
theorem b9M:C6 X (.type "str") (rBi Γ E .str):=by
 rintro pins s σ H xs us Q I r ⟨ds,ah,m,S,rs,q⟩;unfold biD at q
 split at q<;>(try exact q.elim)
 · simp only at q
   split at q
   · rename_i hl;obtain⟨x,rfl,r1⟩:=T9 rs;cases r1;exact a5q pins s σ H _ us Q I r ⟨_,rfl,hl,q.ok S rfl⟩
   · exact q.elim
 · split at q
   · exact q.elim
   · split at q<;>exact q.elim
theorem b9P:C6 X (.type "int") (rBi Γ E .int):=by
 rintro pins s σ H xs us Q I r ⟨ds,ah,m,S,rs,q⟩;unfold biD at q
 split at q<;>(try exact q.elim)
 · simp only at q
   split at q
   · rename_i hl
     split at q
     · rename_i n e;obtain⟨x,rfl,r1⟩:=T9 rs;cases r1;exact a5s pins s σ H _ us Q I r ⟨_,n,rfl,hl,e,q.ok S rfl⟩
     · exact q.elim
   · exact q.elim
 · obtain⟨x,rfl,r1⟩:=T9 rs;cases r1;exact a4h pins s σ H _ us Q I r (.inl ⟨_,rfl,q.ok S rfl⟩)
 · obtain⟨x,rfl,r1⟩:=T9 rs;cases r1;exact a4h pins s σ H _ us Q I r (.inr ⟨_,rfl,q.ok S rfl⟩)
 · split at q
   · exact q.elim
   · split at q<;>exact q.elim
theorem b7r(hK:X.K=Γ.K):C6 X (.type "list") (rBi Γ E .list):=by
 rintro pins s σ H xs us Q I r ⟨ds,ah,m,S,rs,q⟩;unfold biD at q
 split at q<;>(try exact q.elim)
 · obtain⟨x,rfl,a,vs,rfl,h1,q1⟩:=T9 rs;exact a1t pins s σ H _ us Q I r ⟨a,vs,rfl,.inr (.inl (.inl h1)),fun p hp=>q.newc S hp ⟨_,b8,q1.mono (Pre.snoc m p) (Keep.newc hp)⟩⟩
 · split at q
   · exact q.elim
   · split at q
     · rename_i ys e;obtain⟨x,rfl,r1⟩:=T9 rs;obtain⟨a,vs,rfl,_,h1,q1⟩:=S.rdL e r1;exact a1t pins s σ H _ us Q I r ⟨a,vs,rfl,.inl (by rw[hK];exact h1),fun p hp=>d5.newc q S hp ⟨_,b8,q1.mono (Pre.snoc m p) (Keep.newc hp)⟩⟩
     · exact q.elim
theorem b4O(hK:X.K=Γ.K):C6 X (.type "tuple") (rBi Γ E .tuple):=by
 rintro pins s σ H xs us Q I r ⟨ds,ah,m,S,rs,q⟩;unfold biD at q
 split at q<;>(try exact q.elim)
 · obtain⟨x,rfl,a,vs,rfl,h1,q1⟩:=T9 rs;exact a0G pins s σ H _ us Q I r ⟨a,vs,rfl,.inr ⟨.inl (.inl h1),d5.ok q S ⟨a,vs,rfl,h1,q1⟩⟩⟩
 · split at q
   · exact q.elim
   · split at q
     · rename_i ys e;obtain⟨x,rfl,r1⟩:=T9 rs;obtain⟨a,vs,rfl,_,h1,q1⟩:=S.rdL e r1;exact a0G pins s σ H _ us Q I r ⟨a,vs,rfl,.inl ⟨by rw[hK];exact h1,fun p hp=>d5.newt q S hp q1⟩⟩
     · exact q.elim
theorem a3H{m:List Addr}{H:Hp}:∀{l:List D} {is:List Int} {vs:List V},a3T l=some is->Rps m H l vs->vs=is.map V.int
 |[],is,vs,h,r=>by cases h;exact r
 |d::l,is,vs,h,⟨v,t,e,q1,q2⟩=>by
  cases d<;>simp only[a3T] at h<;>first|(cases h;done)|skip
  obtain⟨is',h1,rfl⟩:=Option.map_eq_some_iff.mp h;cases q1;rw[e,a3H h1 q2];rfl
theorem b0E{m:List Addr}{H:Hp}:∀{l:List D} {kvs:List (D×D)} {vs:List V},a5U l=some kvs->Rps m H l vs->∃gs,PrT H vs gs/\DK m H kvs gs
 |[],kvs,vs,h,r=>by cases h;rw[show vs=[] from r];exact⟨[],.nil,.nil⟩
 |d::l,kvs,vs,h,⟨v,t,e,q1,q2⟩=>by
  unfold a5U at h
  split at h
  · rename_i e0;cases e0
  · rename_i k x r e0;cases e0
    split at h
    · rename_i hk;obtain⟨kvs',h1,rfl⟩:=Option.map_eq_some_iff.mp h;obtain⟨gs,g1,g2⟩:=b0E h1 q2;obtain⟨kk,hk⟩:=Option.isSome_iff_exists.mp hk;obtain⟨a,ws,rfl,ha,rs⟩:=q1;obtain⟨y,z,rfl,r1,r2⟩:=b5G rs
      have:=a0q hk r1
      subst this;rw[e];exact⟨(kk,z)::gs,.cons ⟨a,rfl,ha⟩ g1,.cons ⟨hk,r2⟩ g2⟩
    · cases h
  · cases h
theorem b2j(h:DK m H kvs gs):∀{acc:List (D×D)} {ag:List (Key×V)},DK m H acc ag->DK m H (kvs.foldl (fun a p=>a0K a p.1 p.2) acc) (W1 ag gs):=by
 unfold DK at h
 induction h with
 |nil=>exact fun r=>r
 |cons h t ih=>exact fun r=>ih (DK.put r h.1 h.2)
theorem b9L(hc:X.calm=true)(hK:X.K=Γ.K):C6 X (.builtin "sum") (rBi Γ E .sum):=by
 rintro pins s σ H xs us Q I r ⟨ds,ah,m,S,rs,q⟩;unfold biD at q
 split at q<;>(try exact q.elim)
 split at q
 · exact q.elim
 · split at q
   · rename_i ys e
     simp only at q
     split at q
     · rename_i is e2;obtain⟨x,rfl,r1⟩:=T9 rs;obtain⟨a,vs,rfl,_,h1,q1⟩:=S.rdL e r1;rw[a3H e2 q1] at h1;exact b2o hc pins s σ H _ us Q I r ⟨a,is,rfl,by rw[hK];exact h1,q.ok S rfl⟩
     · exact q.elim
   · exact q.elim
theorem a7Q{m:List Addr}{H:Hp}:∀{ys:List D} {kvs:List (D×D)} {vs:List V},a8W ys=some kvs->Rps m H ys vs->∃gs,b7Q H vs gs/\DT m H kvs gs
 |[],kvs,vs,h,r=>by
  cases h;rw[show vs=[] from r];exact⟨[],.nil,.nil⟩
 |y::ys,kvs,vs,h,⟨v,t,e,q1,q2⟩=>by
  subst e;unfold a8W at h
  split at h
  · rename_i e0;cases e0
  · rename_i k x r' he;cases he
    split at h
    · rename_i hk;obtain⟨kvs',h1,rfl⟩:=Option.map_eq_some_iff.mp h;obtain⟨ks,hks⟩:=Option.isSome_iff_exists.mp hk;obtain⟨gs,g1,g2⟩:=a7Q h1 q2;obtain⟨a,us,rfl,ha,ru⟩:=q1;obtain⟨u1,u2,rfl,⟨b,ws,rfl,hb,rb⟩,r2⟩:=b5G ru;have hv:=a1k hks rb;subst hv;exact⟨(ks,u2)::gs,.cons ⟨a,b,rfl,ha,hb⟩ g1,.cons ⟨⟨k,rfl,hks⟩,r2⟩ g2⟩
    · cases h
  · cases h
theorem b9H{gs:List (List Key×V)}(r:DT m H kvs gs)(nd:(kvs.map (·.1)).Nodup):(gs.map (·.1)).Nodup:=by
 have mem:∀{kvs:List (D×D)} {gs:List (List Key×V)},DT m H kvs gs->∀k∈gs.map (·.1),∃l,.tup l∈kvs.map (·.1)/\u7 l=some k:=by
  intro kvs gs r
  induction r with
  |nil=>intro k h;cases h
  |cons h t ih=>
   intro k hk
   rcases aE.mp hk with rfl|hk
   · obtain⟨⟨l,e1,e2⟩,_⟩:=h;exact⟨l,by rw[map_cons,e1];exact bf,e2⟩
   · obtain⟨l,a,b⟩:=ih k hk;exact⟨l,aD _ a,b⟩
 induction r with
 |nil=>exact nodup_nil
 |cons h t ih=>
  rw[map_cons,aY] at nd⊢;refine⟨fun z=>?_,ih nd.2⟩
  obtain⟨l',a,b⟩:=mem t _ z;obtain⟨⟨l,e1,e2⟩,_⟩:=h;rw[e1,a0p e2 b] at nd;exact nd.1 a
theorem b7s(hc:X.calm=true)(hu:X.A.units+8<cLine)(hK:X.K=Γ.K):C6 X (.type "dict") (rBi Γ E .dict):=by
 rintro pins s σ H xs us Q I r ⟨ds,ah,m,S,rs,q⟩;unfold biD at q
 split at q<;>(try exact q.elim)
 split at q
 · exact q.elim
 · split at q
   · rename_i ys e
     simp only at q
     split at q
     · rename_i kvs e2;obtain⟨x,rfl,r1⟩:=T9 rs;obtain⟨a,vs,rfl,_,h1,q1⟩:=S.rdL e r1;obtain⟨gs,g1,g2⟩:=b0E e2 q1;exact a5t hc pins s σ H _ us Q I r ⟨a,vs,gs,rfl,by rw[hK];exact h1,g1,fun d hd=>q.newc S hd (.inl ⟨_,b8,(b2j g2 .nil).mono (Pre.snoc m d) (Keep.newc (m:=m) hd).im⟩)⟩
     · split at q
       · rename_i kvs e2
         split at q
         · rename_i hn;obtain⟨x,rfl,r1⟩:=T9 rs;obtain⟨a,vs,rfl,_,h1,q1⟩:=S.rdL e r1;obtain⟨gs,g1,g2⟩:=a7Q e2 q1;exact a3v hc (Nat.lt_of_le_of_lt (by omega) hu) pins s σ H _ us Q I r ⟨a,vs,gs,rfl,by rw[hK];exact h1,g1,b9H g2 (aw hn),fun d hd=>q.newc S hd (.inr ⟨_,b8,g2.mono (Pre.snoc m d) (Keep.newc (m:=m) hd).im⟩)⟩
         · exact q.elim
       · exact q.elim
   · exact q.elim
theorem b9Q(hc:X.calm=true)(hK:X.K=Γ.K):C6 X (.builtin "all") (rBi Γ E .all):=by
 rintro pins s σ H xs us Q I r ⟨ds,ah,m,S,rs,q⟩;unfold biD at q
 split at q<;>(try exact q.elim)
 split at q
 · exact q.elim
 · split at q
   · rename_i ys e
     simp only at q
     split at q
     · rename_i bs e2;obtain⟨x,rfl,r1⟩:=T9 rs;obtain⟨a,vs,rfl,_,h1,q1⟩:=S.rdL e r1;rw[a7I e2 q1] at h1;exact b2r hc pins s σ H _ us Q I r ⟨a,bs,rfl,by rw[hK];exact h1,q.ok S rfl⟩
     · exact q.elim
   · exact q.elim
theorem b9N(hc:X.calm=true):C6 X (.builtin "max") (rBi Γ E .max):=by
 rintro pins s σ H xs us Q I r ⟨ds,ah,m,S,rs,q⟩;unfold biD at q
 split at q<;>(try exact q.elim)
 · split at q
   · exact q.elim
   · split at q<;>exact q.elim
 · obtain⟨x,y,rfl,r1,r2⟩:=b5G rs
   cases r1;cases r2
   exact a9C hc pins s σ H _ us Q I r ⟨_,_,rfl,q.ok S rfl⟩
def rMt(Γ:Gm)(E:XK)(b:Mt):V->List V->Hp->VK->Prop:=fun x xs H Q=>∃d ds ah m,Sim Γ ah m H/\Rp m H d x/\Rps m H ds xs/\d5 Γ E m H (mtD b ah d ds) Q
theorem b1g:MtR X "list.append" (rMt Γ E .append):=by
 rintro pins s σ H x xs v us Q I rx r ⟨d,ds,ah,m,S,rd,rs,q⟩;unfold mtD at q
 split at q<;>(try exact q.elim)
 · rename_i n e0;obtain⟨y,rfl,r1⟩:=T9 rs
   split at q
   · rename_i l e
     split at q
     · rename_i hl;obtain⟨a,vs,rfl,hm,h1,q1⟩:=S.lst e rd;refine a3O pins s σ H _ _ v us Q I rx r ⟨a,vs,y,rfl,rfl,h1,by rw[q1.len,←Q1];exact hl,?_⟩
       have kp:Keep m m H (upd H a (.lst (vs++[y]))):=Keep.put hm h1 fun z=>z
       exact q m _ _ (Pre.refl m) kp (S.write hm h1 (fun z=>z) ⟨_,b8,(q1.snoc r1).mono (Pre.refl m) kp⟩) rfl
     · exact q.elim
   · contradiction
   · exact q.elim
theorem b1f:MtR X "list.extend" (rMt Γ E .extend):=by
 rintro pins s σ H x xs v us Q I rx r ⟨d,ds,ah,m,S,rd,rs,q⟩;unfold mtD at q
 split at q<;>(try exact q.elim)
 · rename_i n e0;obtain⟨y,rfl,r1⟩:=T9 rs
   split at q
   · contradiction
   · rename_i l e
     split at q
     · split at q
       · rename_i ys e2
         split at q
         · rename_i hl;obtain⟨a,vs,rfl,hm,h1,q1⟩:=S.lst e rd;obtain⟨b,ws,rfl,hm2,h2,q2⟩:=S.lst e2 r1;refine a9f pins s σ H _ _ v us Q I rx r ⟨a,b,vs,ws,rfl,rfl,h1,h2,by rw[q1.len,q2.len,←Q1];exact hl,?_⟩
           have kp:Keep m m H (upd H a (.lst (vs++ws))):=Keep.put hm h1 fun z=>z
           exact q m _ _ (Pre.refl m) kp (S.write hm h1 (fun z=>z) ⟨_,b8,(q1.app q2).mono (Pre.refl m) kp⟩) rfl
         · exact q.elim
       · exact q.elim
     · exact q.elim
   · exact q.elim
theorem b3P:MtR X "str.split" (rMt Γ E .split):=by
 rintro pins s σ H x xs v us Q I rx r ⟨d,ds,ah,m,S,rd,rs,q⟩;unfold mtD at q
 split at q<;>(try exact q.elim)
 · simp only at q
   split at q
   · rename_i h;obtain⟨y,rfl,r1⟩:=T9 rs
     cases rd;cases r1
     refine b1a pins s σ H _ _ v us Q I rx r ⟨_,_,rfl,rfl,h.1,by rw[←Q1];exact h.2,fun p hp=>q.newc S hp ⟨_,b8,Rps.strs⟩⟩
   · exact q.elim
theorem b1e:MtR X "str.startswith" (rMt Γ E .starts):=by
 rintro pins s σ H x xs v us Q I rx r ⟨d,ds,ah,m,S,rd,rs,q⟩;unfold mtD at q
 split at q<;>(try exact q.elim)
 · obtain⟨y,rfl,r1⟩:=T9 rs
   cases rd;cases r1
   exact a9e pins s σ H _ _ v us Q I rx r ⟨_,_,rfl,rfl,q.ok S rfl⟩
theorem b6x(hK:X.K=Γ.K):MtR X "str.join" (rMt Γ E .join):=by
 rintro pins s σ H x xs v us Q I rx r ⟨d,ds,ah,m,S,rd,rs,q⟩;unfold mtD at q
 split at q<;>(try exact q.elim)
 · simp only at q
   split at q
   · rename_i l e
     split at q
     · rename_i ts e2
       split at q
       · rename_i hj;obtain⟨y,rfl,r1⟩:=T9 rs;obtain⟨a,vs,rfl,_,h1,q1⟩:=S.rdL e r1;rw[a5N e2 q1] at h1;cases rd;exact b3N pins s σ H _ _ v us Q I rx r ⟨_,a,ts,rfl,rfl,by rw[hK];exact h1,hj,q.ok S rfl⟩
       · exact q.elim
     · exact q.elim
   · exact q.elim
theorem c0H(hu:X.A.units+8<cLine):b7R X (fun o i v H Q=>∃d1 d2 d3 ah m,Sim Γ ah m H/\Rp m H d1 o/\Rp m H d2 i/\Rp m H d3 v/\f8 Γ E m H (Q2 ah d1 d2 d3) (fun _ _ _ H'=>Q H')):=by
 rintro pins s σ H o i v ov iv u Q I ro ri rv ⟨d1,d2,d3,ah,m,S,r1,r2,r3,q⟩;unfold Q2 at q
 split at q
 · split at q
   · rename_i xs e
     split at q
     · rename_i k
       split at q
       · rename_i j e2;obtain⟨a,vs,rfl,hm,h1,q1⟩:=S.lst e r1;cases r2;refine b0e pins s σ H _ _ _ ov iv u Q I ro ri rv ⟨a,vs,_,j,rfl,rfl,h1,by rw[q1.len];exact e2,?_⟩
         have kp:Keep m m H (upd H a (.lst (vs.set j v))):=Keep.put hm h1 fun z=>z
         exact q m _ (Pre.refl m) kp (S.write hm h1 (fun z=>z) ⟨_,b8,(q1.set j r3).mono (Pre.refl m) kp⟩)
       · exact q.elim
     · exact q.elim
   · rename_i kvs e
     split at q
     · rename_i h;obtain⟨a,rfl,hm⟩:=r1
       cases (show ov=Value.ref a from ro)
       obtain⟨H',I',kp,S',hd⟩:=R8 I S e h.1 hm
       have r3':=r3.mono (Pre.refl m) kp
       rcases hd with⟨ks,gs,hk,ha,dk⟩|⟨l,ks,gs,rfl,hk,ha,dt⟩
       · have kp2:Keep m m H' (upd H' a (.dK (N6 gs ks v))):=Keep.put hm ha fun z=>z
         refine a4c (v:=v) (H':=upd H' a (.dK (N6 gs ks v))) (hu1 hu) I' (.inl ⟨gs,ks,ha,a0q hk r2,by rw[←Paired.length dk,←Q1];exact h.2,rfl⟩) ri rv fun s' I''=>⟨_,I'',?_⟩
         exact q m _ (Pre.refl m) (kp.trans kp2) (S'.write hm ha (fun z=>z) (.inl ⟨_,b8,(dk.put hk r3').mono (Pre.refl m) kp2.im⟩))
       · have kp2:Keep m m H' (upd H' a (.dT (N6 gs ks v))):=Keep.put hm ha fun z=>z
         obtain⟨b,vs,rfl,hb,rs⟩:=r2;have hv:=a1k hk rs;subst hv;refine a4c (v:=v) (H':=upd H' a (.dT (N6 gs ks v))) (hu1 hu) I' (.inr ⟨gs,ks,b,ha,rfl,kp.tup hb,by rw[←Paired.length dt,←Q1];exact h.2,rfl⟩) ri rv fun s' I''=>⟨_,I'',?_⟩
         exact q m _ (Pre.refl m) (kp.trans kp2) (S'.write hm ha (fun z=>z) (.inr ⟨_,b8,(dt.put hk r3').mono (Pre.refl m) kp2.im⟩))
     · exact q.elim
   · exact q.elim
 · exact q.elim
theorem Fl.put{f:Str}(r:Rp m H d v){fs:List (Str×D)}{gs:List (Str×V)}(h:Fl m H fs gs):Fl m H (a3K f d fs) (V7 f v gs):=by
 induction h with
 |nil=>exact .cons ⟨rfl,r⟩ .nil
 | @cons p q ps qs h t ih=>
  obtain⟨n,x⟩:=p;obtain⟨n',x'⟩:=q
  have e:n=n':=h.1
  subst e;unfold a3K V7
  split
  · exact .cons ⟨rfl,r⟩ t
  · exact .cons h ih
theorem Fl.look{f:Str}{fs:List (Str×D)}{gs:List (Str×V)}(h:Fl m H fs gs)(e:fs.lookup f=some d):∃v,gs.lookup f=some v/\Rp m H d v:=by
 induction h with
 |nil=>cases e
 | @cons p q ps qs h t ih=>
  obtain⟨n,x⟩:=p;obtain⟨n',x'⟩:=q
  have e1:n=n':=h.1
  subst e1;rw[lookup_cons] at e⊢
  cases z:f==n with
  |true=>rw[z] at e;cases e;exact⟨x',rfl,h.2⟩
  |false=>rw[z] at e;exact ih e
end
set_option genInjectivity false
mutual
inductive Pat where
  |nm (i:Nat)|tp (ps:Pats)
inductive Pats where
  |nil|cons (p:Pat) (r:Pats)
end
mutual
inductive E where
  |v (i:Nat)|k (d:D)|bin (o:B) (a b:E)|isN (a:E)|notN (a:E)|neg (a:E)|nt (a:E)|an (a b:E)|orr (a b:E)|chn (o p:B) (a b c:E)
  |ix (a b:E)|sl (a:E) (lo hi:O)|fld (a:E) (f:Str)|lst (es:Es)|tup (es:Es)|dnew|call (f:Nat) (es:Es)|mk (c:Nat) (es:Es)|bi (b:Bi) (es:Es)|mt (b:Mt) (o:E) (es:Es)
  |comp (p:Pat) (it:I) (n:Nat) (fr:List Nat) (t:T) (e:E)|compI (p:Pat) (a:E) (n:Nat) (fr:List Nat) (t:T) (e:E)|gin (neg:Bool) (a:E) (ds:List D)|gdin (neg:Bool) (a:E) (kvs:List (D×D))|gdix (a:E) (kvs:List (D×D))|dlit (kvs:List (D×D))|dget (a k x:E)|trng (a b:E)|ife (t:T) (a b:E)|rev (a:E)|isl (a:E)
inductive Es where
  |nil|cons (e:E) (r:Es)
inductive T where
  |yes|val (e:E)|cmp (o:B) (a b:E)|isN (a:E)|notN (a:E)|chn (o p:B) (a b c:E)|an (a b:T)|orr (a b:T)|nt (a:T)
inductive O where
  |no|at(e:E)
inductive I where
  |seq (e:E)|rng1 (a:E)|gsq (ds:List D)|rngD (a b:E)|enum (e:E)|zip (a b:E)
end
mutual
inductive S where
  |set (i:Nat) (e:E)|ex (e:E)|ret (e:E)|iff (t:T) (a b:Ss)|for (p:Pat) (it:I) (b:Ss)|bad|six (a i v:E)|sfl (a:E) (f:Str) (v:E)
inductive Ss where
  |nil|cons (s:S) (r:Ss)
end
set_option genInjectivity true
abbrev Es.o(a:E):Es:=.cons a .nil
abbrev Ss.o(a:S):Ss:=.cons a .nil
abbrev E.i(n:Int):E:=.k (.int n)
abbrev E.s(x:Str):E:=.k (.str x)
inductive Out where
 |nx (env:n5)|rt (d:D)
abbrev CF:=Nat->List D->AH->R D
structure CT where
 init:Nat->Nat
mutual
def D8:Pat->D->n5->Option n5
  |.nm i,d,env=>some (env.set i (some d))
  | .tp ps,d,env=>match d with
    |.tup ds=>N7 ps ds env
    |_=>none
def N7:Pats->List D->n5->Option n5
  | .nil,ds,env=>match ds with
    |[]=>some env
    |_::_=>none
  | .cons p r,ds,env=>match ds with
    |[]=>none
    | d::t=>match D8 p d env with
      |some env'=>N7 r t env'
      |none=>none
end
noncomputable def gOk(g:List (Nat×Cell))(h:AH):Bool:=g.all fun p=>decide (h[p.1]? =some p.2)
noncomputable def asB(r:R D):R Bool:=r.bind fun d h=>match d with
 |.bl b=>.ok b h
 |_=>.no
def V0(g:List (Nat×Cell))(p:Pat)(body:n5->AH->R Out):List D->n5->AH->R Out
 |[],env,h=>if gOk g h=true then .ok (.nx env) h else .no
 | x::r,env,h=>if gOk g h=true then(match D8 p x env with
  |none=>.no
  |some env'=>(body env' h).bind fun o h'=>match o with
   |.nx env''=>V0 g p body r env'' h'
   |.rt d=>.ok (.rt d) h') else .no
def D7(g:List (Nat×Cell))(p:Pat)(t:n5->AH->R Bool)(elt:n5->AH->R D)(env0:n5):List D->List D->AH->R (List D)
 |[],acc,h=>if gOk g h=true then .ok acc h else .no
 | x::r,acc,h=>if gOk g h=true then(match D8 p x env0 with
  |none=>.no
  |some env=>(t env h).bind fun b h1=>if b=true then((elt env h1).bind fun d h2=>if acc.length<SL then D7 g p t elt env0 r (acc++[d]) h2 else .no)
   else D7 g p t elt env0 r acc h1) else .no
noncomputable def x4:Nat->List D->List D
 |_,[]=>[]
 |n,x::r=>.tup [.int n,x]::x4 (n+1) r
noncomputable def X4(x:Str):List D:=x.cps.toList.map fun c=>.str ⟨#[c]⟩
noncomputable def rngD(lo:Int)(n:Nat):List D:=(List.range n).map fun i=>.int (lo+(i:Nat))
abbrev Its:=List D×List (Nat×Cell)
def V6(h:AH):D->R Its
 |.str x=>.ok (X4 x,[]) h
 |.tup l=>.ok (l,[]) h
 |.ref n=>match h[n]? with
  |some (.lst l)=>.ok (l,[(n,.lst l)]) h
  |some (.rol l)=>.ok (l,[(n,.rol l)]) h
  |_=>.no
 |_=>.no
def b0n(h:AH):D->D->R Its
 |.int i,.int j=>if N5 i=true/\N5 j=true then .ok (rngD i (j-i).toNat,[]) h else .no
 |_,_=>.no
def dnI(h:AH):D->D->R Its
 |.int i,.int j=>if N5 i=true/\N5 j=true then .ok ((List.range (i-j).toNat).map fun k=>.int (i-(k:Nat)),[]) h else .no
 |_,_=>.no
def Y4(h:AH):D->R Its
 |.ref n=>match h[n]? with
  |some (.lst l)=>.ok (x4 0 l,[(n,.lst l)]) h
  |some (.rol l)=>.ok (x4 0 l,[(n,.rol l)]) h
  |_=>.no
 |_=>.no
noncomputable def a6i(h:AH)(n:Nat):Option (List D×Cell):=match h[n]? with
 |some (.lst l)=>some (l,.lst l)
 |some (.rol l)=>some (l,.rol l)
 |_=>none
noncomputable def a0Z:List D->List D->List D
 |x::xs,y::ys=>.tup [x,y]::a0Z xs ys
 |_,_=>[]
def b2D(h:AH):D->D->R Its
 |.ref i,.ref j=>match a6i h i,a6i h j with
  |some a,some b=>.ok (a0Z a.1 b.1,[(i,a.2),(j,b.2)]) h
  |_,_=>.no
 |_,_=>.no
def a5F(h:AH):D->D->R D
 |.int i,.int j=>if(N5 i=true/\N5 j=true)/\(j-i).toNat<=16777216 then .ok (.tup (rngD i (j-i).toNat)) h else .no
 |_,_=>.no
def b0u(h:AH):D->R D
 |.ref n=>match h[n]? with
  |some (.lst xs)=>o5 (.lst xs.reverse) h
  |_=>.no
 |_=>.no
noncomputable def U2(l:List (D×D)):List D:=l.map fun p=>.tup [p.1,p.2]
noncomputable def a8y(h:AH):D->Option (Nat×List (D×D))
 |.ref n=>match h[n]? with
  |some (.dict l)=>some (n,l)
  |_=>none
 |_=>none
noncomputable def b1v(h:AH):D->Bool
 |.ref n=>match h[n]? with
  |some (.lst _)=>true
  |_=>false
 |_=>false
noncomputable def u9(n:Nat)(fr:List Nat)(env:n5):n5:=List.replicate n none++fr.map fun j=>(env[j]?).join
noncomputable def a8h(r:R D):R (Option Int):=r.bind fun d h=>match d with
 |.int i=>.ok (some i) h
 |_=>.no
section
variable(ct:CT)(c:CF)
mutual
def ev:E->n5->AH->R D
  | .v i,env,h=>match env[i]? with
    |some (some d)=>.ok d h
    |_=>.no
  |.k d,_,h=>.ok d h
  |.bin o a b,env,h=>(ev a env h).bind fun x h1=>(ev b env h1).bind fun y h2=>op2 o h2 x y
  |.isN a,env,h=>(ev a env h).bind fun x h1=>.ok (.bl (decide (x=.non))) h1
  |.notN a,env,h=>(ev a env h).bind fun x h1=>.ok (.bl (!decide (x=.non))) h1
  | .neg a,env,h=>(ev a env h).bind fun x h1=>match x with
    |.int i=>.ok (.int (-i)) h1
    |_=>.no
  |.nt a,env,h=>(asB (ev a env h)).bind fun b h1=>.ok (.bl (!b)) h1
  |.an a b,env,h=>(asB (ev a env h)).bind fun x h1=>if x=true then ev b env h1 else .ok (.bl false) h1
  |.orr a b,env,h=>(asB (ev a env h)).bind fun x h1=>if x=true then .ok (.bl true) h1 else ev b env h1
  |.chn o p a b e,env,h=>(ev a env h).bind fun x h1=>(ev b env h1).bind fun y h2=>(asB (op2 o h2 x y)).bind fun k h3=>if k=true then(ev e env h3).bind fun z h4=>op2 p h4 y z else .ok (.bl false) h3
  |.ix a b,env,h=>(ev a env h).bind fun x h1=>(ev b env h1).bind fun y h2=>ixD h2 x y
  |.sl a lo hi,env,h=>(ev a env h).bind fun x h1=>(evo lo env h1).bind fun l h2=>(evo hi env h2).bind fun u h3=>slD h3 l u x
  |.fld a f,env,h=>(ev a env h).bind fun x h1=>W8 h1 f x
  |.lst es,env,h=>(evs es env h).bind fun ds h1=>if ds.length<=SL then o5 (.lst ds) h1 else .no
  |.tup es,env,h=>(evs es env h).bind fun ds h1=>if ds.length<=SL then .ok (.tup ds) h1 else .no
  |.dnew,_,h=>o5 (.dict []) h
  |.call f es,env,h=>(evs es env h).bind fun ds h1=>c f ds h1
  | .mk k es,env,h=>(evs es env h).bind fun ds h1=>(c (ct.init k) (.ref h1.length::ds) (h1++[.obj k []])).bind fun r h2=>match r with
    |.non=>.ok (.ref h1.length) h2
    |_=>.no
  |.bi b es,env,h=>(evs es env h).bind fun ds h1=>biD b h1 ds
  |.mt b o es,env,h=>(ev o env h).bind fun x h1=>if mtT b h1 x=true then(evs es env h1).bind fun ds h2=>mtD b h2 x ds else .no
  |.comp p it n fr t e,env,h=>(evi it env h).bind fun x h1=>(D7 x.2 p (tst t) (ev e) (u9 n fr env) x.1 [] h1).bind fun ds h2=>o5 (.lst ds) h2
  | .compI p a n fr t e,env,h=>(ev a env h).bind fun x h1=>match a8y h1 x with
    |some (k,l)=>(D7 [(k,.rod l)] p (tst t) (ev e) (u9 n fr env) (U2 l) [] (h1.set k (.rod l))).bind fun ds h2=>o5 (.lst ds) (h2.set k (.dict l))
    |none=>.no
  |.gin neg a ds,env,h=>(ev a env h).bind fun x h1=>if B7 x=true/\ds.all B7=true then .ok (.bl (inD x ds !=neg)) h1 else .no
  |.gdin neg a kvs,env,h=>(ev a env h).bind fun x h1=>if(E9 x).isSome=true then .ok (.bl ((k8 kvs x).isSome !=neg)) h1 else .no
  | .gdix a kvs,env,h=>(ev a env h).bind fun x h1=>if(E9 x).isSome=true then(match k8 kvs x with
    |some d=>.ok d h1
    |none=>.no) else .no
  |.dlit kvs,_,h=>o5 (.dict kvs) h
  |.dget a k x,env,h=>(ev a env h).bind fun o h1=>if a7g h1 o=true then(ev k env h1).bind fun y h2=>(ev x env h2).bind fun z h3=>a3e h3 o y z else .no
  |.trng a b,env,h=>(ev a env h).bind fun x h1=>(ev b env h1).bind fun y h2=>a5F h2 x y
  |.ife t a b,env,h=>(tst t env h).bind fun x h1=>if x=true then ev a env h1 else ev b env h1
  |.rev a,env,h=>(ev a env h).bind fun x h1=>b0u h1 x
  |.isl a,env,h=>(ev a env h).bind fun x h1=>if b1v h1 x=true then .ok (.bl true) h1 else .no
def evs:Es->n5->AH->R (List D)
  |.nil,_,h=>.ok [] h
  |.cons e r,env,h=>(ev e env h).bind fun d h1=>(evs r env h1).bind fun ds h2=>.ok (d::ds) h2
def tst:T->n5->AH->R Bool
  |.yes,_,h=>.ok true h
  |.val e,env,h=>asB (ev e env h)
  |.cmp o a b,env,h=>asB ((ev a env h).bind fun x h1=>(ev b env h1).bind fun y h2=>op2 o h2 x y)
  |.isN a,env,h=>(ev a env h).bind fun x h1=>.ok (decide (x=.non)) h1
  |.notN a,env,h=>(ev a env h).bind fun x h1=>.ok (!decide (x=.non)) h1
  |.chn o p a b e,env,h=>asB ((ev a env h).bind fun x h1=>(ev b env h1).bind fun y h2=>(asB (op2 o h2 x y)).bind fun k h3=>if k=true then(ev e env h3).bind fun z h4=>op2 p h4 y z else .ok (.bl false) h3)
  |.an a b,env,h=>(tst a env h).bind fun x h1=>if x=true then tst b env h1 else .ok false h1
  |.orr a b,env,h=>(tst a env h).bind fun x h1=>if x=true then .ok true h1 else tst b env h1
  |.nt a,env,h=>(tst a env h).bind fun x h1=>.ok (!x) h1
def evo:O->n5->AH->R (Option Int)
  |.no,_,h=>.ok none h
  |.at e,env,h=>a8h (ev e env h)
def evi:I->n5->AH->R Its
  |.seq e,env,h=>(ev e env h).bind fun d h1=>V6 h1 d
  |.gsq ds,_,h=>.ok (ds,[]) h
  |.rng1 a,env,h=>(ev a env h).bind fun d h1=>b0n h1 (.int 0) d
  |.rngD a b,env,h=>(ev a env h).bind fun x h1=>(ev b env h1).bind fun y h2=>dnI h2 x y
  |.enum e,env,h=>(ev e env h).bind fun d h1=>Y4 h1 d
  |.zip a b,env,h=>(ev a env h).bind fun x h1=>(ev b env h1).bind fun y h2=>b2D h2 x y
end
mutual
def ex:S->n5->AH->R Out
  |.set i e,env,h=>(ev ct c e env h).bind fun d h1=>.ok (.nx (env.set i (some d))) h1
  |.ex e,env,h=>(ev ct c e env h).bind fun _ h1=>.ok (.nx env) h1
  |.ret e,env,h=>(ev ct c e env h).bind fun d h1=>.ok (.rt d) h1
  |.iff t a b,env,h=>(tst ct c t env h).bind fun x h1=>if x=true then exs a env h1 else exs b env h1
  |.for p it b,env,h=>(evi ct c it env h).bind fun x h1=>V0 x.2 p (exs b) x.1 env h1
  |.bad,_,_=>.no
  |.six a i v,env,h=>(ev ct c v env h).bind fun x h1=>(ev ct c a env h1).bind fun o h2=>(ev ct c i env h2).bind fun k h3=>(Q2 h3 o k x).bind fun _ h4=>.ok (.nx env) h4
  |.sfl a f v,env,h=>(ev ct c v env h).bind fun x h1=>(ev ct c a env h1).bind fun o h2=>(a4y h2 o f x).bind fun _ h3=>.ok (.nx env) h3
def exs:Ss->n5->AH->R Out
  |.nil,env,h=>.ok (.nx env) h
  | .cons s r,env,h=>(ex s env h).bind fun o h1=>match o with
    |.nx env'=>exs r env' h1
    |.rt d=>.ok (.rt d) h1
end
end
structure Fn where
 np:Nat
 ns:Nat
 gc:Nat
 body:Ss
noncomputable def Cell.flat:Cell->Bool
 |.lst l=>D.flats l
 |.dict l=>l.all fun p=>p.1.flat&&p.2.flat
 |_=>false
def gcR (n:Nat) (h:AH):R D->R D
 | .ok d h'=>if n=0 then .ok d h' else if n=1 then(if h'.take h.length=h/\d.flat=true then .ok d h else .no)
  else(match d with
   |.ref k=>(match h'[k]? with
    |some c=>if h'.take h.length=h/\h.length<=k/\c.flat=true then .ok (.ref h.length) (h++[c]) else .no
    |none=>.no)
   |_=>.no)
 |.no=>.no
def b0(ct:CT)(F:Nat->Option Fn):Nat->CF
 |0=>fun _ _ _=>.no
 | k+1=>fun f ds h=>match F f with
  |none=>.no
  |some fd=>if ds.length=fd.np then gcR fd.gc h (match exs ct (b0 ct F k) fd.body (ds.map some++List.replicate (fd.ns-fd.np) none) h with
   |.ok (.nx _) h'=>.ok .non h'
   |.ok (.rt d) h'=>.ok d h'
   |.no=>.no) else .no
structure GT where
 fn:List (Str×Nat×Nat)
 scal:List (Str×D)
 tups:List (Str×List D)
 dicts:List (Str×List (D×D))
 obj:List (Str×Nat)
 atts:List Str
 blt:List Str
noncomputable def b9R:Operator->Option B
 |.Add=>some .add|.Sub=>some .sub|.Mult=>some .mul|.FloorDiv=>some .div|.Mod=>some .mod
 |_=>none
noncomputable def a7s:CmpOp->Option B
 |.Eq=>some .eq|.NotEq=>some .ne|.Lt=>some .lt|.LtE=>some .le|.Gt=>some .gt|.GtE=>some .ge|.In=>some .isin|.NotIn=>some .notin
 |_=>none
noncomputable def b1u(sc:Scope)(x:Str):Bool:=match sc.names.lookup x with
 |some .local=>true|some .cell=>true|some .free=>true
 |_=>false
noncomputable def G8(sc:Scope)(x:Str):Bool:=decide (sc.names.lookup x=some .globalImplicit)&&decide (x≠"__debug__")&&decide (x≠"__name__")
def slot(N:List Str)(sc:Scope)(x:Str):Option Nat:=if b1u sc x&&decide (x≠"__debug__")&&decide (x≠"__classdict__") then N.idxOf? x else none
noncomputable def b1w(dfn:Bool)(sc:Scope)(x:Str):Bool:=match sc.names.lookup x with
 |some .local=>true|some .cell=>dfn
 |_=>false
def a2H(dfn:Bool)(N:List Str)(sc:Scope)(x:Str):Option Nat:=if b1w dfn sc x then N.idxOf? x else none
noncomputable def b7v(x:Str):Option Bi:=if x="len" then some .len else if x="str" then some .str else if x="int" then some .int else if x="tuple" then some .tuple else if x="list" then some .list
 else if x="all" then some .all else if x="max" then some .max else if x="sum" then some .sum else if x="dict" then some .dict else none
noncomputable def b6v(x:Str):Option Mt:=if x="append" then some .append else if x="extend" then some .extend else if x="split" then some .split else if x="join" then some .join else if x="startswith" then some .starts else none
noncomputable def l8:Expr->Bool
 |.Starred _ _=>false
 |_=>true
noncomputable def V8:Expr->Bool
 |.Call (.Name _ _) [] [] _=>false
 |_=>true
noncomputable def a2u:Expr->Bool
 |.Slice .. =>false
 |_=>true
noncomputable def a1h:Expr->Bool
 |.Set .. =>false
 |_=>true
noncomputable def a7O(sc scope:Scope):Scope:={scope with names:=scope.names.map fun(n,k)=>if(k==NameKind.free&&sc.kind==.function&&sc.names.lookup n==some .cell) then(n,NameKind.cell) else(n,k)}
noncomputable def b5W:Expr->Bool
 |.Name .. =>true|.Call .. =>true|.Subscript .. =>true|.Attribute .. =>true
 |_=>false
mutual
def a9D (dfn:Bool) (N:List Str) (sc:Scope):Nat->Expr->Option Pat
  |0,_=>none
  | n+1,e=>match e with
    |.Name x _=>(a2H dfn N sc x).map .nm
    |.Tuple es _ _=>(a3h dfn N sc n es).map .tp
    |_=>none
def a3h (dfn:Bool) (N:List Str) (sc:Scope):Nat->List Expr->Option Pats
  |0,_=>none
  | n +1,es=>match es with
    |[]=>some .nil
    | e::r=>match a9D dfn N sc n e,a3h dfn N sc n r with
      |some p,some ps=>some (.cons p ps)
      |_,_=>none
end
mutual
def E7:Pat->List Nat
  |.nm i=>[i]
  |.tp ps=>a0m ps
def a0m:Pats->List Nat
  |.nil=>[]
  |.cons p r=>E7 p++a0m r
end
mutual
def o3:Nat->Expr->List Str
  |0,_=>[]
  | n+1,e=>match e with
    |.Name x _=>[x]
    |.Tuple es _ _=>a3L n es
    |_=>[]
def a3L:Nat->List Expr->List Str
  |0,_=>[]
  | n+1,es=>match es with
    |[]=>[]
    |e::r=>o3 n e++a3L n r
end
noncomputable def C8(scope:Scope):List Str:=(scope.names.filter fun y=>decide (y.2=.free)).map (·.1)
noncomputable def b4a(N:List Str):List Str->Option (List Nat)
 |[]=>some []
 |x::r=>match N.idxOf? x,b4a N r with
  |some i,some is=>some (i::is)
  |_,_=>none
structure Rec where
 E:List Str->Scope->Expr->Option E
 Es:List Str->Scope->List Expr->Option Es
 T:List Str->Scope->Expr->Option T
 O:List Str->Scope->Option Expr->Option O
 I:List Str->Scope->Expr->Expr->Option I
noncomputable def b6J:Expr->Bool
 |.Constant k _ _=>(match k with
  |.none=>true
  |_=>false)
 |_=>false
noncomputable def a6U:CmpOp->Option Bool
 |.Is=>some true
 |.IsNot=>some false
 |_=>none
noncomputable def b8k:Expr->Option (Option Expr×Option Expr)
 |.Slice lo hi st _=>(match st with
  |none=>some (lo,hi)
  |some _=>none)
 |_=>none
noncomputable def b8q:Const->Option E
 |.int i=>some (.k (.int i))
 |.str x=>some (.k (.str x))
 |.bool b=>some (.k (.bl b))
 |.none=>some (.k .non)
 |_=>none
noncomputable def sUn(G:GT)(r:Rec)(N:List Str)(sc:Scope)(a:Expr):UnaryOp->Option E
 |.USub=>(r.E N sc a).map .neg
 |.Not=>(r.E N sc a).map .nt
 |_=>none
noncomputable def sBo (G : GT) (r:Rec) (N:List Str) (sc:Scope) (p:Pos) (op:BoolOp):List Expr->Option E
 |[]=>none
 | a :: t => match t with
   |[]=>r.E N sc a
   | b::l=>match op with
     |.And=>(match r.E N sc a,r.E N sc (.BoolOp .And (b::l) p) with
             |some x,some y=>some (.an x y)
             |_,_=>none)
     |.Or=>(match r.E N sc a,r.E N sc (.BoolOp .Or (b::l) p) with
             |some x,some y=>some (.orr x y)
             |_,_=>none)
def b8s (G:GT) (r:Rec) (N:List Str) (sc:Scope) (a:Expr) (op:CmpOp) (b:Expr):Option E:=
 if b6J b&&(a6U op).isSome then(match a6U op with
  |some true=>(r.E N sc a).map .isN
  |_=>(r.E N sc a).map .notN) else
 if a1h b then(match a7s op,r.E N sc a,r.E N sc b with
  |some o,some x,some y=>some (.bin o x y)
  | some o,some x,none=>(match b with
   |.Name y _=>if G8 sc y then(match op,G.tups.lookup y with
    |.In,some ds=>some (.gin false x ds)
    |.NotIn,some ds=>some (.gin true x ds)
    |.In,none=>(G.dicts.lookup y).map (.gdin false x)
    |.NotIn,none=>(G.dicts.lookup y).map (.gdin true x)
    |_,_=>none) else none
   |_=>none)
  |_,_,_=>none) else none
def b8r(G:GT)(r:Rec)(N:List Str)(sc:Scope)(a:Expr)(op op':CmpOp)(b d:Expr):Option E:=if a1h d then(match a7s op,a7s op',r.E N sc a,r.E N sc b,r.E N sc d with
 |some o,some p,some x,some y,some z=>some (.chn o p x y z)
 |_,_,_,_,_=>none) else none
def sSl (G:GT) (r:Rec) (N:List Str) (sc:Scope) (a b:Expr):Option E:=match b8k b with
 | some (lo,hi)=>(match r.E N sc a,r.O N sc lo,r.O N sc hi with
         |some x,some l,some u=>some (.sl x l u)
         |_,_,_=>none)
 |none=>if a2u b then(match r.E N sc a,r.E N sc b with
     |some x,some y=>some (.ix x y)
     | none,some y=>(match a with
       |.Name z _=>if G8 sc z then(G.dicts.lookup z).map (.gdix y) else none
       |_=>none)
     |_,_=>none) else none
noncomputable def b7n:Expr->Option Str
 |.Constant k _ _=>(match k with
  |.str x=>some x
  |_=>none)
 |_=>none
noncomputable def b7o:Expr->Option Int
 |.Constant k _ _=>(match k with
  |.int i=>some i
  |_=>none)
 |_=>none
def a9w:List (Option Expr)->List Expr->Option (List (D×D))
 |[],vs=>if vs.isEmpty then some [] else none
 | k::ks,vs=>(match vs with
  |[]=>none
  |v::r=>(match k.bind b7n,b7o v,a9w ks r with
   |some x,some i,some l=>some ((.str x,.int i)::l)
   |_,_,_=>none))
noncomputable def a4L:List D->Bool
 |[]=>true
 |d::r=>!(r.any fun e=>decide (e=d))&&a4L r
def b7k(kvs:List (D×D)):Bool:=decide (kvs.length<=15)&&a4L (kvs.map (·.1))
noncomputable def a9K:List Expr->Option (Expr×Expr)
 |[]=>none
 |a::r=>(match r with
  |[]=>none
  |b::q=>if q.isEmpty then some (a,b) else none)
noncomputable def b0W:List Expr->Option Expr
 |[]=>none
 |a::r=>if r.isEmpty then some a else none
noncomputable def b0Y:Expr->Option Str
 |.Name x _=>some x
 |_=>none
def b0m(as:List Expr):Option (Expr×Expr):=match b0W as with
 |some e=>(match e with
  |.Call f bs ks _=>if ks.isEmpty&&decide (b0Y f=some "range") then a9K bs else none
  |_=>none)
 |none=>none
def b0t(as:List Expr):Option Expr:=match b0W as with
 |some e=>(match e with
  |.Call f bs ks _=>if ks.isEmpty&&decide (b0Y f=some "reversed") then b0W bs else none
  |_=>none)
 |none=>none
def sCn (G:GT) (r:Rec) (N:List Str) (sc:Scope) (x:Str) (as:List Expr):Option E:=if G8 sc x then(match G.fn.lookup x with
 |some (f,np)=>if as.length=np&&decide (as≠[]) then(r.Es N sc as).map (.call f) else none
 | none=>match G.obj.lookup x with
  |some k=>if as=[] then some (.mk k .nil) else none
  | none=>if G.blt.contains x then(if x="isinstance" then(match a9K as with
   |some (a,b)=>if l8 a then(if decide (b0Y b=some "list")&&G8 sc "list"&&G.blt.contains "list" then(r.E N sc a).map .isl else none) else none
   |none=>none)
   else match(if decide (x="tuple")&&G8 sc "range"&&G.blt.contains "range" then b0m as else none) with
    |some (a,b)=>if l8 a&&l8 b then(match r.E N sc a,r.E N sc b with
     |some y,some z=>some (.trng y z)
     |_,_=>none) else none
    |none=>match(if decide (x="list")&&G8 sc "reversed"&&G.blt.contains "reversed" then b0t as else none) with
    |some a=>if l8 a then(r.E N sc a).map .rev else none
    |none=>match b7v x with
    |some b=>if as≠[] then(r.Es N sc as).map (.bi b) else none
    |none=>none) else none) else none
def b8p(G:GT)(r:Rec)(N:List Str)(sc:Scope)(o:Expr)(as:List Expr):Option E:=match a9K as with
 |some (a,b)=>if l8 a&&l8 b then(match r.E N sc o,r.E N sc a,r.E N sc b with
  |some x,some y,some z=>some (.dget x y z)
  |_,_,_=>none) else none
 |none=>none
def sCa(G:GT)(r:Rec)(N:List Str)(sc:Scope)(o:Expr)(m:Str)(apos:Pos)(as:List Expr)(cpos:Pos):Option E:=if V8 o&&(apos.endLine==cpos.line)&&decide (m="get") then b8p G r N sc o as else if V8 o&&(apos.endLine==cpos.line)&&decide (as.length<20)&&decide (as≠[]) then(match b6v m,r.E N sc o,r.Es N sc as with
 |some b,some x,some xs=>some (.mt b x xs)
 |_,_,_=>none) else none
def b5D (r:Rec) (N:List Str) (sc:Scope) (elt tg iter:Expr) (ifs:List Expr) (scope:Scope):Option (List Nat×Pat×T×E):=match b4a N (C8 scope) with
       | some js=>if b7p sc scope (o3 8 tg) (C8 scope)&&a1h iter then(match a9D false (o3 8 tg++C8 scope) (a7O sc scope) 8 tg,r.E (o3 8 tg++C8 scope) (a7O sc scope) elt with
         | some p,some x=>if(E7 p).all (fun i=>decide (i<(o3 8 tg).length)) then(match ifs with
           |[]=>some (js,p,.yes,x)
           |[t]=>(r.T (o3 8 tg++C8 scope) (a7O sc scope) t).map fun z=>(js,p,z,x)
           |_=>none) else none
         |_,_=>none) else none
       |none=>none
def a4W(tg iter:Expr):Option Expr:=match iter with
 | .Call f as ks cp=>(match f with
  |.Attribute o m ap=>if decide (m="items")&&V8 o&&(ap.endLine==cp.line)&&as.isEmpty&&ks.isEmpty then(match tg with
   |.Tuple _ _ _=>some o
   |_=>none) else none
  |_=>none)
 |_=>none
def sLc(G:GT)(r:Rec)(N:List Str)(sc:Scope)(elt tg iter:Expr)(ifs:List Expr)(scope:Scope):Option E:=match b5D r N sc elt tg iter ifs scope with
 |some q=>(match a4W tg iter with
  |some o=>(r.E N sc o).map fun x=>.compI q.2.1 x (o3 8 tg).length q.1 q.2.2.1 q.2.2.2
  |none=>(r.I N sc tg iter).map fun it=>.comp q.2.1 it (o3 8 tg).length q.1 q.2.2.1 q.2.2.2)
 |none=>none
def sE2(G:GT)(r:Rec)(N:List Str)(sc:Scope)(e:Expr):Option E:=match e with
 |.Subscript a b _=>sSl G r N sc a b
 |.IfExp t a b _=>(match r.T N sc t,r.E N sc a,r.E N sc b with
  |some z,some x,some y=>some (.ife z x y)
  |_,_,_=>none)
 |.Attribute a f _=>if V8 a&&G.atts.contains f then(r.E N sc a).map (.fld · f) else none
 |.List es _=>(r.Es N sc es).map .lst
 |.Tuple es _ _=>(r.Es N sc es).map .tup
 | .Dict ks vs _=>(match ks with
  |[]=>(match vs with
   |[]=>some .dnew
   |_::_=>none)
  |_::_=>(a9w ks vs).bind fun kvs=>if b7k kvs then some (.dlit kvs) else none)
 |.Call f as ks cpos=>if ks.isEmpty then(match f with
  |.Name x _=>sCn G r N sc x as
  |.Attribute o m apos=>sCa G r N sc o m apos as cpos
  |_=>none) else none
 |.ListComp elt gens scope _=>(match gens with
  |[]=>none
  |g::t=>if t.isEmpty&&decide (g.is_async=0) then sLc G r N sc elt g.target g.iter g.ifs scope else none)
 |_=>none
def sE (G:GT) (r:Rec) (N:List Str) (sc:Scope) (e:Expr):Option E:=match e with
 |.Constant k _ _=>b8q k
 |.Name x _=>match slot N sc x with
  |some i=>some (.v i)
  |none=>if G8 sc x then(G.scal.lookup x).map .k else none
 |.BinOp a op b _=>match b9R op,r.E N sc a,r.E N sc b with
  |some o,some x,some y=>some (.bin o x y)
  |_,_,_=>none
 |.UnaryOp op a _=>sUn G r N sc a op
 |.BoolOp op l p=>sBo G r N sc p op l
 | .Compare a ops bs _=>(match ops with
  |[]=>none
  | op::t=>(match bs with
   |[]=>none
   | b::u=>(match t with
    |[]=>(match u with
     |[]=>b8s G r N sc a op b
     |_::_=>none)
    |op'::t'=>(match u with
     |[]=>none
     |d::u'=>if t'.isEmpty&&u'.isEmpty then b8r G r N sc a op op' b d else none))))
 |e=>sE2 G r N sc e
def sEs(G:GT)(r:Rec)(N:List Str)(sc:Scope)(es:List Expr):Option Es:=match es with
 |[]=>some .nil
 |e::l=>if l8 e then(match r.E N sc e,r.Es N sc l with
  |some x,some xs=>some (.cons x xs)
  |_,_=>none) else none
def sTd(G:GT)(r:Rec)(N:List Str)(sc:Scope)(e:Expr):Option T:=if b5W e then(r.E N sc e).map .val else none
def b8n (G:GT) (r:Rec) (N:List Str) (sc:Scope) (a:Expr) (op:CmpOp) (b:Expr):Option T:=
 if b6J b&&(a6U op).isSome then(match a6U op with
  |some true=>(r.E N sc a).map .isN
  |_=>(r.E N sc a).map .notN) else
 if a1h b then(match a7s op,r.E N sc a,r.E N sc b with
  |some o,some x,some y=>some (.cmp o x y)
  | some o,some x,none=>(match b with
   |.Name y _=>if G8 sc y then(match op,G.tups.lookup y with
    |.In,some ds=>some (.val (.gin false x ds))
    |.NotIn,some ds=>some (.val (.gin true x ds))
    |.In,none=>(G.dicts.lookup y).map fun kvs=>.val (.gdin false x kvs)
    |.NotIn,none=>(G.dicts.lookup y).map fun kvs=>.val (.gdin true x kvs)
    |_,_=>none) else none
   |_=>none)
  |_,_,_=>none) else none
def b8m(G:GT)(r:Rec)(N:List Str)(sc:Scope)(a:Expr)(op op':CmpOp)(b d:Expr):Option T:=if a1h d then(match a7s op,a7s op',r.E N sc a,r.E N sc b,r.E N sc d with
 |some o,some p,some x,some y,some z=>some (.chn o p x y z)
 |_,_,_,_,_=>none) else none
def sT (G:GT) (r:Rec) (N:List Str) (sc:Scope) (e:Expr):Option T:=match e with
 |.UnaryOp op a p=>(match op with
  |.Not=>(r.T N sc a).map .nt
  |op=>sTd G r N sc (.UnaryOp op a p))
 | .BoolOp op l p=>(match l with
  |[]=>sTd G r N sc (.BoolOp op [] p)
  | a::t=>(match t with
   |[]=>r.T N sc a
   | b::l=>(match op with
    |.And=>(match r.T N sc a,r.T N sc (.BoolOp .And (b::l) p) with
     |some x,some y=>some (.an x y)
     |_,_=>none)
    |.Or=>(match r.T N sc a,r.T N sc (.BoolOp .Or (b::l) p) with
     |some x,some y=>some (.orr x y)
     |_,_=>none))))
 | .Compare a ops bs p=>(match ops with
  |[]=>none
  | op::t=>(match bs with
   |[]=>none
   | b::u=>(match t with
    |[]=>(match u with
     |[]=>b8n G r N sc a op b
     |_::_=>none)
    |op'::t'=>(match u with
     |[]=>none
     |d::u'=>if t'.isEmpty&&u'.isEmpty then b8m G r N sc a op op' b d else none))))
 |e=>sTd G r N sc e
noncomputable def sO(G:GT)(r:Rec)(N:List Str)(sc:Scope)(o:Option Expr):Option O:=match o with
 |none=>some .no
 |some e=>(r.E N sc e).map .at
noncomputable def b6K:Expr->Bool
 | .UnaryOp op a _=>(match op with
  | .USub=>(match a with
   |.Constant k _ _=>(match k with
    |.int i=>decide (i=1)
    |_=>false)
   |_=>false)
  |_=>false)
 |_=>false
def sI (G:GT) (r:Rec) (N:List Str) (sc:Scope) (tg e:Expr):Option I:=match e with
 | .Call (.Name x p) as [] q=>if G8 sc x&&G.blt.contains x&&decide (x="range") then(match as with
  |[a]=>if l8 a then(r.E N sc a).map .rng1 else none
  |[a,b,d]=>if b6K d&&l8 a&&l8 b then(match r.E N sc a,r.E N sc b with
   |some u,some v=>some (.rngD u v)
   |_,_=>none) else none
  |_=>none)
  else if G8 sc x&&G.blt.contains x&&decide (x="enumerate") then(match as,tg with
   |[a],.Tuple _ _ _=>if l8 a then(r.E N sc a).map .enum else none
   |_,_=>none)
  else if G8 sc x&&G.blt.contains x&&decide (x="zip") then(match as,tg with
   |[a,b],.Tuple _ _ _=>if l8 a&&l8 b then(match r.E N sc a,r.E N sc b with
    |some u,some v=>some (.zip u v)
    |_,_=>none) else none
   |_,_=>none)
  else(r.E N sc (.Call (.Name x p) as [] q)).map .seq
 |.Name x p=>(match(if G8 sc x then G.tups.lookup x else none) with
  |some ds=>some (.gsq ds)
  |none=>(r.E N sc (.Name x p)).map .seq)
 |e=>(r.E N sc e).map .seq
def cR(G:GT):Nat->Rec
 |0=>⟨fun _ _ _=>none,fun _ _ _=>none,fun _ _ _=>none,fun _ _ _=>none,fun _ _ _ _=>none⟩
 |n+1=>⟨sE G (cR G n),sEs G (cR G n),sT G (cR G n),sO G (cR G n),sI G (cR G n)⟩
abbrev cE(G:GT)(N:List Str)(sc:Scope)(n:Nat)(e:Expr):Option E:=(cR G n).E N sc e
abbrev cEs(G:GT)(N:List Str)(sc:Scope)(n:Nat)(es:List Expr):Option Es:=(cR G n).Es N sc es
abbrev cT(G:GT)(N:List Str)(sc:Scope)(n:Nat)(e:Expr):Option T:=(cR G n).T N sc e
abbrev cO(G:GT)(N:List Str)(sc:Scope)(n:Nat)(o:Option Expr):Option O:=(cR G n).O N sc o
abbrev cI(G:GT)(N:List Str)(sc:Scope)(n:Nat)(tg e:Expr):Option I:=(cR G n).I N sc tg e
noncomputable def U0(e:Expr):Bool:=match e with
 |.ListComp .. =>false|.SetComp .. =>false|.DictComp .. =>false
 |_=>true
noncomputable def b8T(e:Expr):Bool:=match e with
 |.ListComp .. =>true
 |_=>false
def sAs (G:GT) (N:List Str) (sc:Scope) (e:Expr):Expr->Option S
 | .Name x _=>(match a2H true N sc x,cE G N sc 40 e with
         |some i,some y=>if U0 e||b8T e then some (.set i y) else none
         |_,_=>none)
 |.Subscript a i _=>(match cE G N sc 40 a,cE G N sc 40 i,cE G N sc 40 e with
         |some x,some k,some y=>if U0 e&&a2u i then some (.six x k y) else none
         |_,_,_=>none)
 |.Attribute a f _=>(match cE G N sc 40 a,cE G N sc 40 e with
         |some x,some y=>if U0 e&&G.atts.contains f then some (.sfl x f y) else none
         |_,_=>none)
 |_=>none
def sS(G:GT)(N:List Str)(sc:Scope)(r:List Stmt->Option Ss)(s:Stmt):Option S:=match s with
 |.Assign tgs e _=>(match tgs with
  |[]=>none
  |t::u=>if u.isEmpty then sAs G N sc e t else none)
 |.Expr e _=>if U0 e then(cE G N sc 40 e).map .ex else none
 |.Return o _=>(match o with
  |some e=>(cE G N sc 40 e).map .ret
  |none=>none)
 |.If t a b _=>match cT G N sc 40 t,r a,r b with
  |some z,some x,some y=>some (.iff z x y)
  |_,_,_=>none
 |.For tg it b els _=>if els.isEmpty then(match a9D true N sc 8 tg,cI G N sc 40 tg it,r b with
  |some p,some i,some y=>if a1h it then some (.for p i y) else none
  |_,_,_=>none) else none
 |.Raise _ _ _=>some .bad
 |_=>none
def sSs(G:GT)(N:List Str)(sc:Scope)(r:List Stmt->Option Ss):List Stmt->Option Ss
 |[]=>some .nil
 |s::l=>(sSs G N sc r l).map (.cons ((sS G N sc r s).getD .bad))
def cSs(G:GT)(N:List Str)(sc:Scope):Nat->List Stmt->Option Ss
 |0=>fun _=>none
 |n+1=>sSs G N sc (cSs G N sc n)
noncomputable def TEv(Γ:Gm)(E:XK)(f:n5->AH->R D):TE:=fun σ H Q=>∃env ah m,Rel Γ env ah σ H m/\d5 Γ E m H (f env ah) Q
noncomputable def TAv(Γ:Gm)(E:XK)(f:n5->AH->R (List D)):TA:=fun σ H Q=>∃env ah m,Rel Γ env ah σ H m/\f8 Γ E m H (f env ah) (fun ds _ m1 H1=>∀vs,Rps m1 H1 ds vs->Q vs H1)
noncomputable def TTv(Γ:Gm)(E:XK)(f:n5->AH->R Bool):TT:=fun σ H Q=>∃env ah m,Rel Γ env ah σ H m/\f8 Γ E m H (f env ah) (fun b _ _ H1=>Q b H1)
noncomputable def TOv(Γ:Gm)(E:XK)(f:n5->AH->R (Option Int)):TO:=fun σ H Q=>∃env ah m,Rel Γ env ah σ H m/\f8 Γ E m H (f env ah) (fun b _ _ H1=>Q b H1)
variable{t':TE}{es:List Expr}{st:Stmt}{ah1:AH}{Q':VK}{x:Str}
section
variable{X:Cx}{E:XK}{e a b d:Expr}{pos:Pos}
theorem PE.imp{t:TE}(h:PE X e t)(i:∀σ H Q,t' σ H Q->t σ H Q):PE X e t':=fun pins s σ H Q I q=>h pins s σ H Q I (i _ _ _ q)
theorem PT.imp{t t':TT}(h:PT X e t)(i:∀σ H Q,t' σ H Q->t σ H Q):PT X e t':=fun pins s σ H Q I q=>h pins s σ H Q I (i _ _ _ q)
theorem PW.imp{t t':TT}(h:PW X e t)(i:∀σ H Q,t' σ H Q->t σ H Q):PW X e t':=fun w pins s σ H Q I q=>h w pins s σ H Q I (i _ _ _ q)
theorem PA.imp{t t':TA}(h:PA X es t)(i:∀σ H Q,t' σ H Q->t σ H Q):PA X es t':=fun p pins s σ H Q I q=>h p pins s σ H Q I (i _ _ _ q)
theorem PO.imp{e:Option Expr}{t t':TO}(h:PO X e t)(i:∀σ H Q,t' σ H Q->t σ H Q):PO X e t':=fun pins s σ H Q I q=>h pins s σ H Q I (i _ _ _ q)
theorem PS.imp{t t':TS}(h:PS X st t)(i:∀D σ H,t' D σ H->t D σ H):PS X st t':=fun pins s σ H D I q=>h pins s σ H D I (i _ _ _ q)
theorem PSs.imp{st:List Stmt}{t t':TS}(h:PSs X st t)(i:∀D σ H,t' D σ H->t D σ H):PSs X st t':=fun pins s σ H D I q=>h pins s σ H D I (i _ _ _ q)
theorem Rel.on(r:Rel Γ env ah σ H m)(p:Pre m m1)(k:Keep m m1 H H1)(s:Sim Γ ah1 m1 H1):Rel Γ env ah1 σ H1 m1:=⟨s,r.env.mono p k⟩
theorem d5.first{f:D->AH->R D}(rl:Rel Γ env ah σ H m)(h:d5 Γ E m H (r.bind f) Q)
 (k:∀d ah1 m1 H1 v,Pre m m1->Keep m m1 H H1->Rel Γ env ah1 σ H1 m1->Rp m1 H1 d v->d5 Γ E m1 H1 (f d ah1) Q->Q' v H1):d5 Γ E m H r Q':=
 h.bind.val fun d ah1 m1 H1 v p kp s r q=>k d ah1 m1 H1 v p kp (rl.on p kp s) r q
theorem f8.first{f:D->AH->R β}{P:β->AH->List Addr->Hp->Prop}(rl:Rel Γ env ah σ H m)(h:f8 Γ E m H (r.bind f) P)
 (k:∀d ah1 m1 H1 v,Pre m m1->Keep m m1 H H1->Rel Γ env ah1 σ H1 m1->Rp m1 H1 d v->f8 Γ E m1 H1 (f d ah1) P->Q' v H1):d5 Γ E m H r Q':=
 h.bind.val fun d ah1 m1 H1 v p kp s r q=>k d ah1 m1 H1 v p kp (rl.on p kp s) r q
theorem f8.mp{r:R α}{P P':α->AH->List Addr->Hp->Prop}(h:f8 Γ E m H r P)(k:∀a ah1 m1 H1,Pre m m1->Keep m m1 H H1->Sim Γ ah1 m1 H1->P a ah1 m1 H1->P' a ah1 m1 H1):f8 Γ E m H r P':=by
 cases r with
 |ok d ah=>exact fun m2 H2 p2 k2 s2=>k d ah m2 H2 p2 k2 s2 (h m2 H2 p2 k2 s2)
 |no=>exact h
theorem d5.mp(h:d5 Γ E m H r Q)(k:∀v H',Q v H'->Q' v H'):d5 Γ E m H r Q':=by
 cases r with
 |ok d ah=>exact fun m2 H2 v p2 k2 s2 r2=>k v H2 (h m2 H2 v p2 k2 s2 r2)
 |no=>exact h
theorem f8.ok{a:α}{P:α->AH->List Addr->Hp->Prop}(h:f8 Γ E m H (.ok a ah) P)(s:Sim Γ ah m H):P a ah m H:=h m H (Pre.refl m) (Keep.refl m H) s
theorem f8.bool{P:Bool->AH->List Addr->Hp->Prop}(h:f8 Γ E m H (asB r) P):d5 Γ E m H r (fun x H1=>∃k,x=.bl k/\∃ah1 m1,Pre m m1/\Keep m m1 H H1/\Sim Γ ah1 m1 H1/\P k ah1 m1 H1):=by
 unfold asB at h;refine h.bind.val fun d ah1 m1 H1 v p kp s r q=>?_
 cases d<;>first|exact q.elim|skip
 rename_i k;exact⟨k,r,ah1,m1,p,kp,s,q.ok s⟩
theorem a_v{i:Nat}(hN:X.N[i]? =some x)(hv:Vis X.env.scope x)(hd:(x==("__debug__":Str))=false)(hcd:(x==("__classdict__":Str))=false)(c:CF)(ct:CT):PE X (.Name x pos) (TEv Γ E (ev ct c (.v i))):=by
 refine PE.imp (b6c hN hv hd hcd) ?_
 rintro σ H Q ⟨env,ah,m,rl,q⟩;unfold ev at q
 split at q
 · rename_i d e;obtain⟨v,h1,h2⟩:=rl.env.val i d e;exact⟨v,h1,q.ok rl.sim h2⟩
 · exact q.elim
theorem a_k{dd:D}(h:PE X e (tC v))(hr:∀m H,Rp m H dd v)(c:CF)(ct:CT):PE X e (TEv Γ E (ev ct c (.k dd))):=by
 refine PE.imp h ?_
 rintro σ H Q ⟨env,ah,m,rl,q⟩;unfold ev at q;exact q.ok rl.sim (hr m H)
end
variable{op':CmpOp}{p2:Pos}
section
variable{X:Cx}{Ex:XK}{e a b d:Expr}{pos:Pos}{ct:CT}{c:CF}{x y z:E}
theorem two{r:R2}{g:AH->D->D->R D}(ha:PE X a (TEv Γ Ex (ev ct c x)))(hb:PE X b (TEv Γ Ex (ev ct c y))):∀σ H Q,TEv Γ Ex (fun env h=>(ev ct c x env h).bind fun u h1=>(ev ct c y env h1).bind fun v h2=>g h2 u v) σ H Q→
 tOp (rOf Γ Ex g) (TEv Γ Ex (ev ct c x)) (TEv Γ Ex (ev ct c y)) σ H Q:=by
 rintro σ H Q ⟨env,ah,m,rl,q⟩;refine⟨env,ah,m,rl,d5.first rl q fun d1 ah1 m1 H1 v1 p1 k1 rl1 r1 q1=>?_⟩
 refine⟨env,ah1,m1,rl1,d5.first rl1 q1 fun d2 ah2 m2 H2 v2 p2 k2 rl2 r2 q2=>?_⟩
 exact⟨d1,d2,ah2,m2,rl2.sim,r1.mono p2 k2,r2,q2⟩
theorem c0q{o:B}{op:Operator}(h:o.bin=some op)(ha:PE X a (TEv Γ Ex (ev ct c x)))(hb:PE X b (TEv Γ Ex (ev ct c y))):PE X (.BinOp a op b pos) (TEv Γ Ex (ev ct c (.bin o x y))):=by
 refine PE.imp (b8C (b9D (Γ:=Γ) (E:=Ex) h) ha hb) fun σ H Q q=>two (r:=rOf Γ Ex (op2 o)) ha hb σ H Q ?_
 simpa only[TEv,ev] using q
theorem c0o{o:B}(hu:X.A.units+8<cLine)(hK:X.K=Γ.K)(h:o.cmp=some op)(ha:PE X a (TEv Γ Ex (ev ct c x)))(hb:PE X b (TEv Γ Ex (ev ct c y)))(hm:behindInMarks op b=false):PE X (.Compare a [op] [b] pos) (TEv Γ Ex (ev ct c (.bin o x y))):=by
 refine PE.imp (a4F (a1F (Γ:=Γ) (E:=Ex) hu hK h) ha hb hm) fun σ H Q q=>two (r:=rOf Γ Ex (op2 o)) ha hb σ H Q ?_
 simpa only[TEv,ev] using q
theorem a2l{f:n5->AH->R D}{t:TE}(h:∀σ H Q,TEv Γ Ex f σ H Q->t σ H Q):∀σ H Q,TTv Γ Ex (fun env h=>asB (f env h)) σ H Q->a9U t σ H Q:=by
 rintro σ H Q ⟨env,ah,m,rl,q⟩;exact h σ H _ ⟨env,ah,m,rl,q.bool.mp fun v H1 ⟨k,e,_,_,_,_,_,w⟩=>⟨k,e,w⟩⟩
theorem b7M{o:B}(hu:X.A.units+8<cLine)(hK:X.K=Γ.K)(h:o.cmp=some op)(ha:PE X a (TEv Γ Ex (ev ct c x)))(hb:PE X b (TEv Γ Ex (ev ct c y)))(hm:behindInMarks op b=false):PT X (.Compare a [op] [b] pos) (TTv Γ Ex (tst ct c (.cmp o x y))):=by
 refine PT.imp (a4E (a1F (Γ:=Γ) (E:=Ex) hu hK h) ha hb hm) fun σ H Q q=>a2l (two (r:=rOf Γ Ex (op2 o)) ha hb) σ H Q ?_
 simpa only[TTv,tst] using q
theorem a4z{d:D}(r:Rp m H d v):decide (v=.non)=decide (d=.non):=by
 cases d with
 |non=>cases r;rfl
 |bl _=>cases r;rfl
 |int _=>cases r;rfl
 |str _=>cases r;rfl
 |tup _=>obtain⟨_,_,rfl,_⟩:=r;rfl
 |ref _=>obtain⟨_,rfl,_⟩:=r;rfl
theorem c0k{j p'}(ha:PE X a (TEv Γ Ex (ev ct c x))):PE X (.Compare a [.Is] [.Constant .none j p'] pos) (TEv Γ Ex (ev ct c (.isN x))):=by
 refine PE.imp (b0R (b0T ha)) ?_
 rintro σ H Q ⟨env,ah,m,rl,q⟩;rw[ev] at q;refine⟨env,ah,m,rl,d5.first rl q fun d1 ah1 m1 H1 v1 p1 k1 rl1 r1 q1=>?_⟩
 rw[a4z r1];exact q1.ok rl1.sim rfl
theorem b7D{j p'}(ha:PE X a (TEv Γ Ex (ev ct c x))):PE X (.Compare a [.IsNot] [.Constant .none j p'] pos) (TEv Γ Ex (ev ct c (.notN x))):=by
 refine PE.imp (b0R (a7U ha)) ?_
 rintro σ H Q ⟨env,ah,m,rl,q⟩;rw[ev] at q;refine⟨env,ah,m,rl,d5.first rl q fun d1 ah1 m1 H1 v1 p1 k1 rl1 r1 q1=>?_⟩
 rw[a4z r1];exact q1.ok rl1.sim rfl
theorem b7E{j p'}(ha:PE X a (TEv Γ Ex (ev ct c x))):PT X (.Compare a [.Is] [.Constant .none j p'] pos) (TTv Γ Ex (tst ct c (.isN x))):=by
 refine PT.imp (b0z (b0T ha)) ?_
 rintro σ H Q ⟨env,ah,m,rl,q⟩;rw[tst] at q;refine⟨env,ah,m,rl,f8.first rl q fun d1 ah1 m1 H1 v1 p1 k1 rl1 r1 q1=>?_⟩
 rw[a4z r1];exact⟨_,rfl,q1.ok rl1.sim⟩
theorem b4Y{j p'}(ha:PE X a (TEv Γ Ex (ev ct c x))):PT X (.Compare a [.IsNot] [.Constant .none j p'] pos) (TTv Γ Ex (tst ct c (.notN x))):=by
 refine PT.imp (b0z (a7U ha)) ?_
 rintro σ H Q ⟨env,ah,m,rl,q⟩;rw[tst] at q;refine⟨env,ah,m,rl,f8.first rl q fun d1 ah1 m1 H1 v1 p1 k1 rl1 r1 q1=>?_⟩
 rw[a4z r1];exact⟨_,rfl,q1.ok rl1.sim⟩
theorem b5n(ha:PE X a (TEv Γ Ex (ev ct c x))):PE X (.UnaryOp .USub a pos) (TEv Γ Ex (ev ct c (.neg x))):=by
 refine PE.imp (b8A b5p ha) ?_
 rintro σ H Q ⟨env,ah,m,rl,q⟩;rw[ev] at q;refine⟨env,ah,m,rl,d5.first rl q fun d1 ah1 m1 H1 v1 p1 k1 rl1 r1 q1=>?_⟩
 cases d1<;>first|exact q1.elim|skip
 cases r1;exact⟨_,rfl,q1.ok rl1.sim rfl⟩
theorem d5.firstB{f:Bool->AH->R D}(rl:Rel Γ env ah σ H m)(h:d5 Γ Ex m H ((asB r).bind f) Q)
 (k:∀b ah1 m1 H1,Pre m m1->Keep m m1 H H1->Rel Γ env ah1 σ H1 m1->d5 Γ Ex m1 H1 (f b ah1) Q->Q' (.bl b) H1):d5 Γ Ex m H r Q':=by
 refine h.bind.bool.mp fun v H1 hh=>?_
 obtain⟨b,rfl,ah2,m2,p2,k2,s2,w⟩:=hh;exact k b ah2 m2 H1 p2 k2 (rl.on p2 k2 s2) w
theorem c1s(ha:PE X a (TEv Γ Ex (ev ct c x))):PE X (.UnaryOp .Not a pos) (TEv Γ Ex (ev ct c (.nt x))):=by
 refine PE.imp (b6g ha) ?_
 rintro σ H Q ⟨env,ah,m,rl,q⟩;rw[ev] at q;exact⟨env,ah,m,rl,d5.firstB rl q fun b ah1 m1 H1 p1 k1 rl1 q1=>⟨b,rfl,q1.ok rl1.sim rfl⟩⟩
theorem c1x{d9:List Expr}(ha:PE X a (TEv Γ Ex (ev ct c x)))(hb:PE X (.BoolOp .And (b::d9) pos) (TEv Γ Ex (ev ct c y))):PE X (.BoolOp .And (a::b::d9) pos) (TEv Γ Ex (ev ct c (.an x y))):=by
 refine PE.imp (b6k ha hb) ?_
 rintro σ H Q ⟨env,ah,m,rl,q⟩;rw[ev] at q;refine⟨env,ah,m,rl,d5.firstB rl q fun k ah1 m1 H1 p1 k1 rl1 q1=>⟨k,rfl,?_⟩⟩
 cases k with
 |true=>rw[ay rfl] at q1⊢;exact⟨env,ah1,m1,rl1,q1⟩
 |false=>rw[az (by decide)] at q1⊢;exact q1.ok rl1.sim rfl
theorem c0e{d9:List Expr}(ha:PE X a (TEv Γ Ex (ev ct c x)))(hb:PE X (.BoolOp .Or (b::d9) pos) (TEv Γ Ex (ev ct c y))):PE X (.BoolOp .Or (a::b::d9) pos) (TEv Γ Ex (ev ct c (.orr x y))):=by
 refine PE.imp (b8B ha hb) ?_
 rintro σ H Q ⟨env,ah,m,rl,q⟩;rw[ev] at q;refine⟨env,ah,m,rl,d5.firstB rl q fun k ah1 m1 H1 p1 k1 rl1 q1=>⟨k,rfl,?_⟩⟩
 cases k with
 |true=>rw[ay rfl] at q1⊢;exact q1.ok rl1.sim rfl
 |false=>rw[az (by decide)] at q1⊢;exact⟨env,ah1,m1,rl1,q1⟩
variable{t u:T}{v:List Expr}
theorem c0a(he:∀whole,isTrue e X.env whole=(do let v←whole;standAt e.pos;holding [v] (truthy v)))(ha:PE X e (TEv Γ Ex (ev ct c x))):PT X e (TTv Γ Ex (tst ct c (.val x))):=by
 refine PT.imp (b0x ha he) ?_
 rintro σ H Q ⟨env,ah,m,rl,q⟩;rw[tst] at q;refine⟨env,ah,m,rl,q.bool.mp fun v H1 hh=>?_⟩
 obtain⟨b,rfl,ah2,m2,p2,k2,s2,w⟩:=hh;exact⟨b,rfl,w⟩
theorem TTv.next{r:R Bool}{f:Bool->AH->R Bool}{Q Q':Bool->Hp->Prop}(rl:Rel Γ env ah σ H m)(h:f8 Γ Ex m H (r.bind f) (fun b _ _ H1=>Q b H1))
 (k:∀b ah1 m1 H1,Pre m m1->Keep m m1 H H1->Rel Γ env ah1 σ H1 m1->f8 Γ Ex m1 H1 (f b ah1) (fun b _ _ H1=>Q b H1)->Q' b H1):f8 Γ Ex m H r (fun b _ _ H1=>Q' b H1):=
 h.bind.mp fun b ah1 m1 H1 p1 k1 s1 q1=>k b ah1 m1 H1 p1 k1 (rl.on p1 k1 s1) q1
theorem c0g(ha:PT X a (TTv Γ Ex (tst ct c t))):PT X (.UnaryOp .Not a pos) (TTv Γ Ex (tst ct c (.nt t))):=by
 refine PT.imp (b5Q ha) ?_
 rintro σ H Q ⟨env,ah,m,rl,q⟩;rw[tst] at q;exact⟨env,ah,m,rl,TTv.next rl q fun b ah1 m1 H1 p1 k1 rl1 q1=>q1.ok rl1.sim⟩
theorem c0s{d9:List Expr}(ha:PT X a (TTv Γ Ex (tst ct c t)))(hb:PW X (.BoolOp .And (b::d9) pos) (TTv Γ Ex (tst ct c u))):PW X (.BoolOp .And (a::b::d9) pos) (TTv Γ Ex (tst ct c (.an t u))):=by
 refine PW.imp (b5M ha hb) ?_
 rintro σ H Q ⟨env,ah,m,rl,q⟩;rw[tst] at q;refine⟨env,ah,m,rl,TTv.next rl q fun k ah1 m1 H1 p1 k1 rl1 q1=>?_⟩
 cases k with
 |true=>rw[ay rfl] at q1⊢;exact⟨env,ah1,m1,rl1,q1⟩
 |false=>rw[az (by decide)] at q1⊢;exact q1.ok rl1.sim
theorem c0f{d9:List Expr}(ha:PT X a (TTv Γ Ex (tst ct c t)))(hb:PW X (.BoolOp .Or (b::d9) pos) (TTv Γ Ex (tst ct c u))):PW X (.BoolOp .Or (a::b::d9) pos) (TTv Γ Ex (tst ct c (.orr t u))):=by
 refine PW.imp (b8x ha hb) ?_
 rintro σ H Q ⟨env,ah,m,rl,q⟩;rw[tst] at q;refine⟨env,ah,m,rl,TTv.next rl q fun k ah1 m1 H1 p1 k1 rl1 q1=>?_⟩
 cases k with
 |true=>rw[ay rfl] at q1⊢;exact q1.ok rl1.sim
 |false=>rw[az (by decide)] at q1⊢;exact⟨env,ah1,m1,rl1,q1⟩
theorem c0l(hc:PT X e (TTv Γ Ex (tst ct c t)))(ha:PE X a (TEv Γ Ex (ev ct c x)))(hb:PE X b (TEv Γ Ex (ev ct c y))):PE X (.IfExp e a b pos) (TEv Γ Ex (ev ct c (.ife t x y))):=by
 refine PE.imp (b0O hc ha hb) ?_
 rintro σ H Q ⟨env,ah,m,rl,q⟩;rw[ev] at q;refine⟨env,ah,m,rl,q.bind.mp fun k ah1 m1 H1 p1 k1 s1 q1=>?_⟩
 cases k with
 |true=>rw[ay rfl] at q1⊢;exact⟨env,ah1,m1,rl.on p1 k1 s1,q1⟩
 |false=>rw[az (by decide)] at q1⊢;exact⟨env,ah1,m1,rl.on p1 k1 s1,q1⟩
theorem b5j{o p:B}{op op':CmpOp}(ha:PE X a (TEv Γ Ex (ev ct c x))):∀σ H Q,TEv Γ Ex (fun env h=>(ev ct c x env h).bind fun x1 h1=>(ev ct c y env h1).bind fun y1 h2=>(asB (op2 o h2 x1 y1)).bind fun k h3=>if k=true then(ev ct c z env h3).bind fun z1 h4=>op2 p h4 y1 z1 else .ok (.bl false) h3) σ H Q→
 a6K (rOf Γ Ex (op2 o)) (rOf Γ Ex (op2 p)) (TEv Γ Ex (ev ct c x)) (TEv Γ Ex (ev ct c y)) (TEv Γ Ex (ev ct c z)) σ H Q:=by
 rintro σ H Q ⟨env,ah,m,rl,q⟩;refine⟨env,ah,m,rl,d5.first rl q fun d1 ah1 m1 H1 v1 p1 k1 rl1 r1 q1=>?_⟩
 refine⟨env,ah1,m1,rl1,d5.first rl1 q1 fun d2 ah2 m2 H2 v2 p2 k2 rl2 r2 q2=>?_⟩
 refine⟨d1,d2,ah2,m2,rl2.sim,r1.mono p2 k2,r2,d5.firstB rl2 q2 fun k ah3 m3 H3 p3 k3 rl3 q3=>⟨k,rfl,?_⟩⟩
 cases k with
 |false=>rw[az (by decide)] at q3⊢;exact q3.ok rl3.sim rfl
 |true=>
  rw[ay rfl] at q3⊢;refine⟨env,ah3,m3,rl3,d5.first rl3 q3 fun d4 ah4 m4 H4 v4 p4 k4 rl4 r4 q4=>?_⟩
  exact⟨d2,d4,ah4,m4,rl4.sim,r2.mono (p3.trans p4) (k3.trans k4),r4,q4⟩
theorem c0p{o p:B}(hu:X.A.units+8<cLine)(hK:X.K=Γ.K)(h:o.cmp=some op)(h':p.cmp=some op')(ha:PE X a (TEv Γ Ex (ev ct c x)))(hb:PE X b (TEv Γ Ex (ev ct c y)))(hd:PE X d (TEv Γ Ex (ev ct c z)))(hm:lastMarks [op,op'] [b,d]=false):
 PE X (.Compare a [op,op'] [b,d] pos) (TEv Γ Ex (ev ct c (.chn o p x y z))):=by
 refine PE.imp (b0S (a1F (Γ:=Γ) (E:=Ex) hu hK h) (a1F (Γ:=Γ) (E:=Ex) hu hK h') ha hb hd hm) fun σ H Q q=>b5j (op:=op) (op':=op') ha σ H Q ?_
 simpa only[TEv,ev] using q
theorem b7N{o p:B}(hu:X.A.units+8<cLine)(hK:X.K=Γ.K)(h:o.cmp=some op)(h':p.cmp=some op')(ha:PE X a (TEv Γ Ex (ev ct c x)))(hb:PE X b (TEv Γ Ex (ev ct c y)))(hd:PE X d (TEv Γ Ex (ev ct c z)))(hm:lastMarks [op,op'] [b,d]=false):
 PT X (.Compare a [op,op'] [b,d] pos) (TTv Γ Ex (tst ct c (.chn o p x y z))):=by
 refine PT.imp (b0A (a1F (Γ:=Γ) (E:=Ex) hu hK h) (a1F (Γ:=Γ) (E:=Ex) hu hK h') ha hb hd hm) fun σ H Q q=>a2l (b5j (op:=op) (op':=op') (o:=o) (p:=p) (y:=y) (z:=z) ha) σ H Q ?_
 simpa only[TTv,tst] using q
theorem c1v(hu:X.A.units+8<cLine)(hK:X.K=Γ.K)(ha:PE X a (TEv Γ Ex (ev ct c x)))(hb:PE X b (TEv Γ Ex (ev ct c y)))(hs:a2z b):PE X (.Subscript a b pos) (TEv Γ Ex (ev ct c (.ix x y))):=by
 refine PE.imp (b5d (b9A (Γ:=Γ) (E:=Ex) hu hK) ha hb hs) fun σ H Q q=>two (r:=rOf Γ Ex ixD) ha hb σ H Q ?_
 simpa only[TEv,ev] using q
theorem c1r:PO X none (TOv Γ Ex (evo ct c .no)):=by
 refine PO.imp b3r ?_
 rintro σ H Q ⟨env,ah,m,rl,q⟩;rw[evo] at q;exact q.ok rl.sim
theorem c1q(ha:PE X a (TEv Γ Ex (ev ct c x))):PO X (some a) (TOv Γ Ex (evo ct c (.at x))):=by
 refine PO.imp (b3q ha) ?_
 rintro σ H Q ⟨env,ah,m,rl,q⟩;rw[evo,a8h] at q;refine⟨env,ah,m,rl,f8.first rl q fun d1 ah1 m1 H1 v1 p1 k1 rl1 r1 q1=>?_⟩
 cases d1<;>first|exact q1.elim|skip
 cases r1;exact⟨_,rfl,q1.ok rl1.sim⟩
variable{l h:Option Expr}{ol oh:O}
theorem c1p(hK:X.K=Γ.K)(ha:PE X a (TEv Γ Ex (ev ct c x)))(hl:PO X l (TOv Γ Ex (evo ct c ol)))(hh:PO X h (TOv Γ Ex (evo ct c oh))):PE X (.Subscript a (.Slice l h none p2) pos) (TEv Γ Ex (ev ct c (.sl x ol oh))):=by
 refine PE.imp (b0M (c1g (Γ:=Γ) (E:=Ex) hK) ha hl hh) ?_
 rintro σ H Q ⟨env,ah,m,rl,q⟩;rw[ev] at q;refine⟨env,ah,m,rl,d5.first rl q fun d1 ah1 m1 H1 v1 p1 k1 rl1 r1 q1=>?_⟩
 refine⟨env,ah1,m1,rl1,q1.bind.mp fun lo ah2 m2 H2 p2 k2 s2 q2=>?_⟩
 refine⟨env,ah2,m2,rl1.on p2 k2 s2,q2.bind.mp fun hi ah3 m3 H3 p3 k3 s3 q3=>?_⟩
 exact⟨d1,ah3,m3,s3,r1.mono (p2.trans p3) (k2.trans k3),q3⟩
variable{xs:Es}
theorem c0h:PA X [] (TAv Γ Ex (evs ct c .nil)):=by
 refine PA.imp Z1 ?_
 rintro σ H Q ⟨env,ah,m,rl,q⟩;rw[evs] at q;exact q.ok rl.sim [] rfl
theorem b7K(ha:PE X a (TEv Γ Ex (ev ct c x)))(hr:PA X es (TAv Γ Ex (evs ct c xs)))(hs:starEach (a::es) X.env=(false,eval a X.env)::starEach es X.env):PA X (a::es) (TAv Γ Ex (evs ct c (.cons x xs))):=by
 refine PA.imp (G0 ha hr hs) ?_
 rintro σ H Q ⟨env,ah,m,rl,q⟩;rw[evs] at q;refine⟨env,ah,m,rl,f8.first rl q fun d1 ah1 m1 H1 v1 p1 k1 rl1 r1 q1=>?_⟩
 refine⟨env,ah1,m1,rl1,q1.bind.mp fun ds ah2 m2 H2 p2 k2 s2 q2=>fun vs rs=>?_⟩
 exact q2.ok s2 (v1::vs) ⟨v1,vs,rfl,r1.mono p2 k2,rs⟩
theorem c0i(ha:PA X es (TAv Γ Ex (evs ct c xs))):PE X (.List es pos) (TEv Γ Ex (ev ct c (.lst xs))):=by
 refine PE.imp (b6i ha) ?_
 rintro σ H Q ⟨env,ah,m,rl,q⟩;rw[ev] at q;refine⟨env,ah,m,rl,q.bind.mp fun ds ah1 m1 H1 p1 k1 s1 q1=>fun vs rs=>?_⟩
 split at q1
 · rename_i hl;exact⟨by rw[rs.len,←Q1];exact hl,fun p hp=>q1.newc s1 hp ⟨_,b8,rs.mono (Pre.snoc m1 p) (Keep.newc hp)⟩⟩
 · exact q1.elim
theorem c0b{k:Nat}(ha:PA X es (TAv Γ Ex (evs ct c xs))):PE X (.Tuple es k pos) (TEv Γ Ex (ev ct c (.tup xs))):=by
 refine PE.imp (b6d ha) ?_
 rintro σ H Q ⟨env,ah,m,rl,q⟩;rw[ev] at q;refine⟨env,ah,m,rl,q.bind.mp fun ds ah1 m1 H1 p1 k1 s1 q1=>fun vs rs=>?_⟩
 split at q1
 · rename_i hl;exact⟨by rw[rs.len,←Q1];exact hl,fun p hp=>q1.newt s1 hp rs⟩
 · exact q1.elim
theorem b7H:PE X (.Dict [] [] pos) (TEv Γ Ex (ev ct c .dnew)):=by
 refine PE.imp b0P ?_
 rintro σ H Q ⟨env,ah,m,rl,q⟩;rw[ev] at q;exact fun p hp=>q.newc rl.sim hp (.inl ⟨[],b8,.nil⟩)
theorem c0r{b:Bi}(ha:PA X es (TAv Γ Ex (evs ct c xs))):∀σ H Q,TEv Γ Ex (ev ct c (.bi b xs)) σ H Q->tCB (rBi Γ Ex b) (TAv Γ Ex (evs ct c xs)) σ H Q:=by
 rintro σ H Q ⟨env,ah,m,rl,q⟩;rw[ev] at q;exact⟨env,ah,m,rl,q.bind.mp fun ds ah1 m1 H1 p1 k1 s1 q1=>fun vs rs=>⟨ds,ah1,m1,s1,rs,q1⟩⟩
end
noncomputable def a4w(Γ:Gm)(c:CF)(f np:Nat):Sp:=fun vs H Q E=>∃ds ah m,ds.length=np/\Rps m H ds vs/\Sim Γ ah m H/\d5 Γ E m H (c f ds ah) Q
theorem d0{a:Expr}{env:Env}(h:l8 a=true):starEach (a::es) env=(false,eval a env)::starEach es env:=by
 cases a<;>first|rfl|cases h
theorem M3{pos:Pos}{env:Env}:∀{es:List Expr},es.all l8=true->(backTo pos (starEach es env)).any (·.1)=false
 |[],_=>rfl
 |a::es,h=>by
  rw[all_cons,ae] at h;rw[d0 h.1];exact M3 (es:=es) h.2
theorem a3D{pos:Pos}{env:Env}:∀{es:List Expr},es.all l8=true->(backTo pos (starEach es env)).all (fun x=>!x.1)=true
 |[],_=>rfl
 |a::es,h=>by
  rw[all_cons,ae] at h;rw[d0 h.1];exact a3D (es:=es) h.2
theorem Y0{o:Expr}{f:Str}{env:Env}{w:Sem Value}(h:V8 o=true):attributeBase o f env w=w:=by
 unfold attributeBase
 split
 · cases h
 · rfl
def a9F(P:Program)(w:World)(K:PySem.W.Frag)(a:Addr)(gs:List (Key×V)):Prop:=(a==sysModules)=false/\∃vs,KV gs vs/\∀h:Heap,K.In h->h.DictOf (n9 P w) a vs
structure Cxt(X:Cx)(Γ:Gm)(G:GT)(ct:CT)(c:CF)(Ex:XK)(N:List Str)(sc:Scope)(dfn:Bool):Prop where
 hN:X.N=N
 nd:N.Nodup
 sc:X.env.scope=sc
 calm:X.calm=true
 hu:X.A.units+8<cLine
 K:X.K=Γ.K
 fnb:dfn=true->∀x,X.fn x=true
 scal:∀x d,G.scal.lookup x=some d->∃u v,X.mg x=some u/\f6 v u/\∀m H,Rp m H d v
 tups:∀x ds,G.tups.lookup x=some ds->∃a vs,X.mg x= ~~~a/\(∀H,SqT X.K H a vs)/\∀m H,Rps m H ds vs
 dicts:∀x kvs,G.dicts.lookup x=some kvs->∃a gs,X.mg x= ~~~a/\a9F X.prog X.w X.K a gs/\∀m H,DK m H kvs gs
 blt:∀x,G.blt.contains x=true->X.mg x=none
 fn:∀x f np,G.fn.lookup x=some (f,np)->∃k a fd ps,ps.length=np/\Room k X.A/\X.mg x= ~~~a/\PySem.W.keepIn X.K (.ref a)=true/\T7 X.K fd ps []/\FnOk X.prog X.w X.K X.mg X.base CX0 k a fd ps (a4w Γ c f np)/\∀ds h,ds.length≠np->c f ds h=.no
 obj:∀x k,G.obj.lookup x=some k->k∈Γ.ob/\∃r a fd ps,ps.length=1/\Room (r+1) X.A/\Mk X.K (Γ.cA k) a/\X.mg x=some (.ref (Γ.cA k))/\T7 X.K fd ps []/\FnOk X.prog X.w X.K X.mg X.base CX0 r a fd ps (a4w Γ c (ct.init k) 1)
 att:∀k,k∈Γ.ob->Cls X.K (Γ.cA k)/\∀f,G.atts.contains f=true->a0i X.K (Γ.cA k) f
variable{f:Nat}{np:Nat}{neg:Bool}{ad:Addr}{apos:Pos}
section
variable{X:Cx}{G:GT}{ct:CT}{c:CF}{Ex:XK}{N:List Str}{sc:Scope}{dfn:Bool}{e a b:Expr}{pos p:Pos}{x y z:E}{xs:Es}
theorem W7{n:Str}(h:G8 sc n=true):sc.names.lookup n=some .globalImplicit/\(n==("__debug__":Str))=false/\n≠"__name__":=by
 unfold G8 at h;rw[ae,ae] at h;exact⟨aw h.1.1,beq_eq_false_iff_ne.mpr (aw h.1.2),aw h.2⟩
theorem Cxt.gl(C:Cxt X Γ G ct c Ex N sc dfn){n:Str}(h:G8 sc n=true):Gl X n:=by
 show X.env.scope.names.lookup n=_
 rw[C.sc];exact(W7 h).1
theorem Cxt.vis(C:Cxt X Γ G ct c Ex N sc dfn){n:Str}(h:b1u sc n=true):Vis X.env.scope n:=by
 rw[C.sc];unfold b1u at h;unfold Vis
 split at h
 · rename_i e;exact .inl e
 · rename_i e;exact .inr (.inl e)
 · rename_i e;exact .inr (.inr e)
 · cases h
theorem a4Z{N:List Str}{n:Str}{i:Nat}(h:N.idxOf? n=some i):N[i]? =some n:=by
 unfold List.idxOf? at h;rw[List.findIdx?_eq_some_iff_getElem] at h
 obtain⟨h1,h2,_⟩:=h;rw[af h1]
 exact congrArg some (eq_of_beq h2)
theorem b7O{n:Str}(C:Cxt X Γ G ct c Ex N sc dfn)(hf:G.fn.lookup n=some (f,np))(hg:G8 sc n=true)(hp:(a::es).all l8=true)(ha:PA X (a::es) (TAv Γ Ex (evs ct c xs))):
 PE X (.Call (.Name n p) (a::es) [] pos) (TEv Γ Ex (ev ct c (.call f xs))):=by
 obtain⟨k,ad,fd,ps,h1,h2,h3,h4,h5,h6,h7⟩:=C.fn n f np hf;rw[all_cons,ae] at hp;refine PE.imp (b3B h6 h2 (C.gl hg) h3 h4 h5 .nil b5e ha (W7 hg).2.1 (d0 hp.1) (M3 hp.2)) ?_
 rintro σ H Q ⟨env,ah,m,rl,q⟩;rw[ev] at q;refine⟨env,ah,m,rl,q.bind.mp fun ds ah1 m1 H1 p1 k1 s1 q1=>fun vs rs=>⟨ds,ah1,m1,?_,by rw[bh];exact rs,s1,q1⟩⟩
 by_cases hl:ds.length=np
 · exact hl
 · rw[h7 ds ah1 hl] at q1;exact q1.elim
theorem c1u{n:Str}{k:Nat}(C:Cxt X Γ G ct c Ex N sc dfn)(hf:G.obj.lookup n=some k)(hg:G8 sc n=true):PE X (.Call (.Name n p) [] [] pos) (TEv Γ Ex (ev ct c (.mk k .nil))):=by
 obtain⟨hk,r,ad,fd,ps,h1,h2,h3,h4,h5,h6⟩:=C.obj n k hf;refine PE.imp (b0N h3 h6 h2 (C.gl hg) h4 h5 .nil b5e (W7 hg).2.1) ?_
 rintro σ H Q ⟨env,ah,m,rl,q⟩;rw[ev,evs,b9] at q;intro x dx hx hdx hne
 have kp:Keep m (m++[x]) H (upd (upd H dx (.own x)) x (.ins (Γ.cA k) dx [])):=(Keep.new hdx).trans (Keep.newc (by rw[c9 (Ne.symm hne)];exact hx))
 have s1:Sim Γ (ah++[.obj k []]) (m++[x]) (upd (upd H dx (.own x)) x (.ins (Γ.cA k) dx [])):=(rl.sim.new (o:=.own x) hdx).alloc (by rw[c9 (Ne.symm hne)];exact hx) ⟨dx,[],b8,.nil,hk⟩
 refine⟨[.ref ah.length],ah++[.obj k []],m++[x],rfl,⟨.ref x,[],rfl,⟨x,rfl,?_⟩,rfl⟩,s1,?_⟩
 · rw[←rl.sim.len,aq (ai _)];simp
 · refine(q.bind.later (Pre.snoc m x) kp).val fun d ah1 m1 H1 v p1 k1 s1 r1 q1=>?_
   cases d<;>first|exact q1.elim|skip
   cases r1;refine⟨rfl,q1.ok s1 ⟨x,rfl,p1.get ?_⟩⟩
   rw[←rl.sim.len,aq (ai _)];simp
theorem c0n{f:Str}(C:Cxt X Γ G ct c Ex N sc dfn)(hb:V8 a=true)(hf:G.atts.contains f=true)(ha:PE X a (TEv Γ Ex (ev ct c x))):PE X (.Attribute a f pos) (TEv Γ Ex (ev ct c (.fld x f))):=by
 refine PE.imp (b6j (pos:=pos) ha (Y0 (f:=f) hb)) ?_
 rintro σ H Q ⟨env,ah,m,rl,q⟩;rw[ev] at q;refine⟨env,ah,m,rl,d5.first rl q fun d1 ah1 m1 H1 v1 p1 k1 rl1 r1 q1=>?_⟩
 unfold W8 at q1
 split at q1
 · split at q1
   · rename_i k fs e2
     split at q1
     · rename_i d e3;obtain⟨ad,rfl,hm1⟩:=r1;obtain⟨dx,gs,g1,g2,g3⟩:=rl1.sim.at hm1 e2;obtain⟨w,hw,rw'⟩:=g2.look e3;obtain⟨a1,a2⟩:=C.att k g3;exact⟨ad,Γ.cA k,dx,gs,w,rfl,g1,a1,a2 f hf,hw,q1.ok rl1.sim rw'⟩
     · exact q1.elim
   · exact q1.elim
 · exact q1.elim
theorem c0j(C:Cxt X Γ G ct c Ex N sc dfn)(hg:G8 sc "isinstance"=true)(hm:X.mg "isinstance"=none)(hg2:G8 sc "list"=true)(hm2:X.mg "list"=none)(hp:l8 a=true)(ha:PE X a (TEv Γ Ex (ev ct c x))):
 PE X (.Call (.Name "isinstance" p) [a,.Name "list" p2] [] pos) (TEv Γ Ex (ev ct c (.isl x))):=by
 have PAab:PA X [a,.Name "list" p2] (a5G (TEv Γ Ex (ev ct c x)) (a5G (tC (.ty "list")) b2S)):=G0 ha (G0 (b3C (C.gl hg2) hm2 PyProof.Rows.boot_list rfl (by decide) (by decide)) Z1 (d0 rfl)) (d0 hp)
 refine PE.imp (Z0 b2q (C.gl hg) hm PyProof.Rows.boot_isinstance PAab (by decide) (by decide) (d0 hp) (M3 rfl)) ?_
 rintro σ H Q ⟨env,ah,m,rl,q⟩;rw[ev] at q;refine⟨env,ah,m,rl,d5.first rl q fun d1 ah1 m1 H1 v1 p1 k1' rl1 r1 q1=>?_⟩
 split at q1
 · rename_i hl;unfold b1v at hl
   split at hl
   · split at hl
     · rename_i e;obtain⟨ad,vs,rfl,_,h1,_⟩:=rl1.sim.lst e r1;exact⟨_,"list",_,true,rfl,.lst h1,by unfold PySem.W.kitOne;rw[ay (by simp)],q1.ok rl1.sim rfl⟩
     · cases hl
   · cases hl
 · exact q1.elim
theorem a8m(h1:∀H,SqT X.K H ad vs)(h2:∀m H,Rps m H ds vs):∀σ H Q,TEv Γ Ex (ev ct c (.gin neg x ds)) σ H Q->tOp (rIn X.K neg) (TEv Γ Ex (ev ct c x)) (tC (.ref ad)) σ H Q:=by
 rintro σ H Q ⟨env,ah,m,rl,q⟩;rw[ev] at q;refine⟨env,ah,m,rl,d5.first rl q fun d1 ah1 m1 H1 v1 p1 k1 rl1 r1 q1=>?_⟩
 split at q1
 · rename_i hf;refine⟨ad,vs,rfl,.inr (h1 H1),L8 r1 hf.1,M6 (h2 m1 H1) hf.2,?_⟩
   rw[Z9 r1 hf.1 (h2 m1 H1) hf.2] at q1
   cases neg with
   |false=>rw[a3j] at q1;exact q1.ok rl1.sim rfl
   |true=>rw[a3i] at q1;exact q1.ok rl1.sim rfl
 · exact q1.elim
theorem b5o{n:Str}(C:Cxt X Γ G ct c Ex N sc dfn)(ho:(op=.In/\neg=false)∨(op=.NotIn/\neg=true))(hg:G8 sc n=true)(ht:G.tups.lookup n=some ds)(ha:PE X a (TEv Γ Ex (ev ct c x))):
 PE X (.Compare a [op] [.Name n p] pos) (TEv Γ Ex (ev ct c (.gin neg x ds)))/\PT X (.Compare a [op] [.Name n p] pos) (TTv Γ Ex (tst ct c (.val (.gin neg x ds)))):=by
 obtain⟨ad,vs,h1,h2,h3⟩:=C.tups n ds ht
 have hb:PE X (.Name n p) (tC (.ref ad)):=a1f (C.gl hg) h1 rfl (W7 hg).2.1
 have ho':OpR X (compareOp op) (rIn X.K neg):=by
  rcases ho with⟨rfl,rfl⟩|⟨rfl,rfl⟩
  · exact a0n
  · exact N9
 refine⟨PE.imp (a4F ho' ha hb rfl) (a8m h2 h3),PT.imp (a4E ho' ha hb rfl) fun σ H Q q=>a2l (a8m (neg:=neg) h2 h3) σ H Q ?_⟩
 simpa only[TTv,tst] using q
def rMd(a:Addr)(gs:List (Key×V))(neg:Bool):R2:=fun x y H Q=>∃k,x=kV k/\y=.ref a/\Q (.bl ((U4 gs k).isSome !=neg)) H
theorem b6q(d:a9F X.prog X.w X.K ad gs):OpR X (compareOp .In) (rMd ad gs false):=by
 intro pins s σ H x y v u Q I rx ry h;obtain⟨k,rfl,rfl,q⟩:=h;cases ry;obtain⟨hd,vs,rel,dd⟩:=d;refine wpAny_in_of (Z8 rx) hd (dd _ I.kIn).mapOf ?_
 rw[←(rel.val k).isSome_eq];rw[a3j] at q;exact⟨.bl _,H,I.tok _,rfl,q⟩
theorem a9b(d:a9F X.prog X.w X.K ad gs):OpR X (compareOp .NotIn) (rMd ad gs true):=by
 intro pins s σ H x y v u Q I rx ry h;obtain⟨k,rfl,rfl,q⟩:=h;cases ry;obtain⟨hd,vs,rel,dd⟩:=d;refine wpAny_notIn_of (Z8 rx) hd (dd _ I.kIn).mapOf ?_
 rw[←(rel.val k).isSome_eq];rw[a3i] at q;exact⟨.bl _,H,I.tok _,rfl,q⟩
def rMx(a:Addr)(gs:List (Key×V)):R2:=fun x y H Q=>∃k v,x=.ref a/\y=kV k/\U4 gs k=some v/\Q v H
theorem c0W(d:a9F X.prog X.w X.K ad gs):IxR X (rMx ad gs):=by
 rintro value slice pins s σ H x y v u Q I rx ry ⟨k,z,rfl,rfl,hz,q⟩ hs;cases rx;obtain⟨hd,vs,rel,dd⟩:=d;have dd:=dd _ I.kIn;obtain⟨w',hw,rw'⟩:=a0y.some_of (v:=z) (o:=valueAt vs k) (by rw[←hz];exact rel.val k)
 exact b9A.ixd_tail dd.typeIs hs (wpAny_getItem_of (Z8 ry) dd.mapOf hw ⟨z,H,I.tok _,rw',q⟩)
theorem a6n(h2:∀m H,DK m H kvs gs):∀σ H Q,TEv Γ Ex (ev ct c (.gdin neg x kvs)) σ H Q->tOp (rMd ad gs neg) (TEv Γ Ex (ev ct c x)) (tC (.ref ad)) σ H Q:=by
 rintro σ H Q ⟨env,ah,m,rl,q⟩;rw[ev] at q;refine⟨env,ah,m,rl,d5.first rl q fun d1 ah1 m1 H1 v1 p1 k1 rl1 r1 q1=>?_⟩
 split at q1
 · rename_i hf;obtain⟨k,hk⟩:=Option.isSome_iff_exists.mp hf;refine⟨k,a0q hk r1,rfl,?_⟩
   rw[(h2 m1 H1).some_eq hk] at q1;exact q1.ok rl1.sim rfl
 · exact q1.elim
theorem b2B{n:Str}(C:Cxt X Γ G ct c Ex N sc dfn)(ho:(op=.In/\neg=false)∨(op=.NotIn/\neg=true))(hg:G8 sc n=true)(ht:G.dicts.lookup n=some kvs)(ha:PE X a (TEv Γ Ex (ev ct c x))):
 PE X (.Compare a [op] [.Name n p] pos) (TEv Γ Ex (ev ct c (.gdin neg x kvs)))/\PT X (.Compare a [op] [.Name n p] pos) (TTv Γ Ex (tst ct c (.val (.gdin neg x kvs)))):=by
 obtain⟨ad,gs,h1,h2,h3⟩:=C.dicts n kvs ht
 have hb:PE X (.Name n p) (tC (.ref ad)):=a1f (C.gl hg) h1 rfl (W7 hg).2.1
 have ho':OpR X (compareOp op) (rMd ad gs neg):=by
  rcases ho with⟨rfl,rfl⟩|⟨rfl,rfl⟩
  · exact b6q h2
  · exact a9b h2
 refine⟨PE.imp (a4F ho' ha hb rfl) (a6n h3),PT.imp (a4E ho' ha hb rfl) fun σ H Q q=>a2l (a6n (neg:=neg) (ad:=ad) h3) σ H Q ?_⟩
 simpa only[TTv,tst] using q
theorem b7F{n:Str}(C:Cxt X Γ G ct c Ex N sc dfn)(hg:G8 sc n=true)(ht:G.dicts.lookup n=some kvs)(hb:PE X b (TEv Γ Ex (ev ct c y)))(hs:a2z b):
 PE X (.Subscript (.Name n p) b pos) (TEv Γ Ex (ev ct c (.gdix y kvs))):=by
 obtain⟨ad,gs,h1,h2,h3⟩:=C.dicts n kvs ht
 have ha:PE X (.Name n p) (tC (.ref ad)):=a1f (C.gl hg) h1 rfl (W7 hg).2.1
 refine PE.imp (b5d (c0W h2) ha hb hs) ?_
 rintro σ H Q ⟨env,ah,m,rl,q⟩;rw[ev] at q;refine⟨env,ah,m,rl,d5.first rl q fun d1 ah1 m1 H1 v1 p1 k1 rl1 r1 q1=>?_⟩
 split at q1
 · rename_i hf;obtain⟨k,hk⟩:=Option.isSome_iff_exists.mp hf
   split at q1
   · rename_i d hd;obtain⟨v,hv,rv⟩:=((h3 m1 H1).val hk).1 d hd;exact⟨k,v,rfl,a0q hk r1,hv,q1.ok rl1.sim rv⟩
   · exact q1.elim
 · exact q1.elim
theorem c1w{n:Str}{b:Bi}(C:Cxt X Γ G ct c Ex N sc dfn)(hb:b7v n=some b)(hg:G8 sc n=true)(hm:X.mg n=none)(hp:(a::es).all l8=true)(ha:PA X (a::es) (TAv Γ Ex (evs ct c xs))):
 PE X (.Call (.Name n p) (a::es) [] pos) (TEv Γ Ex (ev ct c (.bi b xs))):=by
 obtain⟨_,hd,hn⟩:=W7 hg;rw[all_cons,ae] at hp;have s1:=d0 (es:=es) (env:=X.env) hp.1;have s2:=M3 (pos:=pos) (env:=X.env) hp.2
 have go:∀{b:Bi} {t:TE},PE X (.Call (.Name n p) (a::es) [] pos) (tCB (rBi Γ Ex b) (TAv Γ Ex (evs ct c xs)))->PE X (.Call (.Name n p) (a::es) [] pos) (TEv Γ Ex (ev ct c (.bi b xs))):=fun h=>PE.imp h (c0r ha)
 unfold b7v at hb
 repeat' split at hb
 all_goals (first|(cases hb;done)|(cases hb;rename_i e;subst e))
 · exact go (t:=tCB (rBi Γ Ex .len) (TAv Γ Ex (evs ct c xs))) (Z0 (b9O C.K) (C.gl hg) hm PySem.boot_len ha hn hd s1 s2)
 · exact go (t:=tCB (rBi Γ Ex .len) (TAv Γ Ex (evs ct c xs))) (L1 b9M (C.gl hg) hm PyProof.Rows.boot_str ha hn hd s1 s2)
 · exact go (t:=tCB (rBi Γ Ex .len) (TAv Γ Ex (evs ct c xs))) (L1 b9P (C.gl hg) hm PyProof.Rows.boot_int ha hn hd s1 s2)
 · exact go (t:=tCB (rBi Γ Ex .len) (TAv Γ Ex (evs ct c xs))) (L1 (b4O C.K) (C.gl hg) hm PyProof.Rows.boot_tuple ha hn hd s1 s2)
 · exact go (t:=tCB (rBi Γ Ex .len) (TAv Γ Ex (evs ct c xs))) (L1 (b7r C.K) (C.gl hg) hm PyProof.Rows.boot_list ha hn hd s1 s2)
 · exact go (t:=tCB (rBi Γ Ex .len) (TAv Γ Ex (evs ct c xs))) (Z0 (b9Q C.calm C.K) (C.gl hg) hm PyProof.Rows.boot_all ha hn hd s1 s2)
 · exact go (t:=tCB (rBi Γ Ex .len) (TAv Γ Ex (evs ct c xs))) (Z0 (b9N C.calm) (C.gl hg) hm PyProof.Rows.boot_max ha hn hd s1 s2)
 · exact go (t:=tCB (rBi Γ Ex .len) (TAv Γ Ex (evs ct c xs))) (Z0 (b9L C.calm C.K) (C.gl hg) hm PyProof.Rows.boot_sum ha hn hd s1 s2)
 · exact go (t:=tCB (rBi Γ Ex .len) (TAv Γ Ex (evs ct c xs))) (L1 (b7s C.calm C.hu C.K) (C.gl hg) hm PyProof.Rows.boot_dict ha hn hd s1 s2)
theorem a2V{b:Mt}{T:String}(hK:X.K=Γ.K)(hT:(T="list"/\(b=.append∨b=.extend))∨(T="str"/\(b=.split∨b=.join∨b=.starts))):∀σ H Q,TEv Γ Ex (ev ct c (.mt b x xs)) σ H Q->tBM X.K T (rMt Γ Ex b) (TEv Γ Ex (ev ct c x)) (TAv Γ Ex (evs ct c xs)) σ H Q:=by
 rintro σ H Q ⟨env,ah,m,rl,q⟩;rw[ev] at q;refine⟨env,ah,m,rl,d5.first rl q fun d1 ah1 m1 H1 v1 p1 k1 rl1 r1 q1=>?_⟩
 split at q1
 · rename_i ht;refine⟨?_,env,ah1,m1,rl1,q1.bind.mp fun ds ah2 m2 H2 p2 k2 s2 q2=>fun vs rs=>⟨d1,ds,ah2,m2,s2,r1.mono p2 k2,rs,q2⟩⟩
   unfold mtT at ht
   split at ht
   · cases r1
     rcases hT with⟨rfl,rfl|rfl⟩|⟨rfl,_⟩
     · cases ht
     · cases ht
     · rfl
   · rename_i n
     rcases hT with⟨rfl,hb⟩|⟨rfl,rfl|rfl|rfl⟩
     · have hs:(rdL ah1 n).isSome=true:=by rcases hb with rfl|rfl<;>exact ht
       obtain⟨l,hl⟩:=Option.isSome_iff_exists.mp hs;obtain⟨ad,vs,rfl,_,h1,_⟩:=rl1.sim.rdL hl r1;exact .inl ⟨rfl,vs,by rw[hK];exact h1⟩
     · cases ht
     · cases ht
     · cases ht
   · cases ht
 · exact q1.elim
theorem c1t{n:Str}{b:Mt}(C:Cxt X Γ G ct c Ex N sc dfn)(hb:b6v n=some b)(hpb:V8 e=true)(hline:(apos.endLine==pos.line)=true)(hlen:(a::es).length<20)(hp:(a::es).all l8=true)(ho:PE X e (TEv Γ Ex (ev ct c x)))(ha:PA X (a::es) (TAv Γ Ex (evs ct c xs))):
 PE X (.Call (.Attribute e n apos) (a::es) [] pos) (TEv Γ Ex (ev ct c (.mt b x xs))):=by
 have hp':=hp
 rw[all_cons,ae] at hp;have s1:=d0 (es:=es) (env:=X.env) hp.1;have s2:=M3 (pos:=pos) (env:=X.env) hp.2;have hbase:=Y0 (f:=n) (env:=X.env) (w:=eval e X.env) hpb
 have hfew:((backTo pos (starEach (a::es) X.env)).all (fun x=>!x.1)&&(backToKw pos (keywordEach [] X.env)).all (fun x=>x.1.isSome)
  &&decide ((a::es).length+([]:List Keyword).length+(if([]:List Keyword).isEmpty then 0 else 1)<30))=true:=by
  rw[ae,ae];refine⟨⟨a3D hp',rfl⟩,bm ?_⟩
  show(a::es).length+0+0<30
  omega
 unfold b6v at hb
 repeat' split at hb
 all_goals (first|(cases hb;done)|(cases hb;rename_i e0;subst e0))
 · exact PE.imp (a5V PySem.F.plainAttrs_list PySem.F.slot_list_append PySem.F.type_list_append (b1g (Γ:=Γ) (E:=Ex)) ho ha hbase hfew hline s1 s2) (a2V C.K (.inl ⟨rfl,.inl rfl⟩))
 · exact PE.imp (a5V PySem.F.plainAttrs_list PySem.F.slot_list_extend PySem.F.type_list_extend (b1f (Γ:=Γ) (E:=Ex)) ho ha hbase hfew hline s1 s2) (a2V C.K (.inl ⟨rfl,.inr rfl⟩))
 · exact PE.imp (a5V PySem.F.plainAttrs_str PySem.F.slot_str_split PySem.F.type_str_split (b3P (Γ:=Γ) (E:=Ex)) ho ha hbase hfew hline s1 s2) (a2V C.K (.inr ⟨rfl,.inl rfl⟩))
 · exact PE.imp (a5V PySem.F.plainAttrs_str PySem.F.slot_str_join PySem.F.type_str_join (b6x (Γ:=Γ) (E:=Ex) C.K) ho ha hbase hfew hline s1 s2) (a2V C.K (.inr ⟨rfl,.inr (.inl rfl)⟩))
 · exact PE.imp (a5V PySem.F.plainAttrs_str PySem.F.slot_str_startswith PySem.F.type_str_startswith (b1e (Γ:=Γ) (E:=Ex)) ho ha hbase hfew hline s1 s2) (a2V C.K (.inr ⟨rfl,.inr (.inr rfl)⟩))
end
end EV
namespace L2
open PySem PySem.Spec PyProof.Rows
theorem a2W:∀(gs acc:List (Key×V)),((acc++gs).map (·.1)).Nodup->W1 acc gs=acc++gs
 |[],acc,_=>by rw[bh];rfl
 | g::gs,acc,h=>by
  have h2:((acc++[g]++gs).map (·.1)).Nodup:=by rw[aA];exact h
  have hn:(acc.any fun kv=>decide (kv.1=g.1))=false:=by
   rw[List.any_eq_false];intro p hp
   have e:p.1≠g.1:=by
    rw[al,nodup_append] at h;exact h.2.2 p.1 (ak.mpr ⟨p,hp,rfl⟩) g.1 (by simp)
   simp[e]
  show W1 (N6 acc g.1 g.2) gs=_
  rw[show N6 acc g.1 g.2=acc++[g] by unfold N6;rw[hn];rfl,a2W gs _ h2,aA]
  rfl
variable{H:Hp}
theorem a8E{p:Addr}{a b:HO}:upd (upd H p a) p b=upd H p b:=by
 funext x
 by_cases h:x=p
 · subst h;rw[b8,b8]
 · rw[c9 h,c9 h,c9 h]
noncomputable def b5y(X:Cx)(td ty tx:TE):TE:=fun σ H Q=>td σ H fun x H1=>∃a,x=.ref a/\IsD H1 a/\ty σ H1 fun y H2=>tx σ H2 fun z H3=>∃H4,(∀pins σ s,Inv X pins σ H3 s->Inv X pins σ H4 s)/\∃o,a7x H4 a y o/\Q (o.getD z) H4
variable{X:Cx}{e:Expr}{apos:Pos}
theorem b0Q{o f:Expr}{cpos:Pos}{td ty tx:TE}(hu:X.A.units+1<cLine)(ho:PE X o td)(he:PE X e ty)(hf:PE X f tx)(m:M2 X o "get" apos e f cpos):PE X (.Call (.Attribute o "get" apos) [e,f] [] cpos) (b5y X td ty tx):=by
 intro pins s σ H Q I h;refine wpAny_Call_method m.base m.few m.line PySem.F.plainAttrs_dict PySem.F.slot_dict_get PySem.F.type_dict_get (thn (ho pins s σ H _ I h) fun u s1 hh=>?_)
 obtain⟨x,H1,I1,rx,a,ex,d,q1⟩:=hh;subst ex;obtain rfl:u=Value.ref a:=rx;obtain⟨t1,t2,_⟩:=b6L I1 d;refine⟨t1,t2,?_⟩
 rw[m.trees];refine Calls.callWith_builtin rfl (Calls.evalArgs_plain (Calls.spliced_cons (thn (he pins s1 σ H1 _ I1 q1) fun iv s2 hh2=>?_)))
 obtain⟨y,H2,I2,ry,q2⟩:=hh2;refine Calls.spliced_cons (thn (hf pins s2 σ H2 _ I2 q2) fun fv s3 hh3=>Calls.spliced_nil ?_)
 obtain⟨z,H3,I3,rz,H4,iv4,ov,g,q3⟩:=hh3;exact b7m hu (iv4 _ _ _ I3) g ry rz fun w' s4 I4 rw'=>⟨_,H4,I4,rw',q3⟩
end L2
namespace EV
open PySem PySem.Spec L2
open PyProof.Rows hiding St
noncomputable def kDg:Key->D
 |.inl i=>.int i
 |.inr x=>.str x
theorem a3N:∀{l:List D},a4L l=true->l.Nodup
 |[],_=>.nil
 |d::r,h=>by
  rw[a4L,ae] at h;refine aY.mpr ⟨fun m=>?_,a3N h.2⟩
  have:=h.1
  rw[any_eq_true.mpr ⟨d,m,bm rfl⟩] at this;cases this
variable{kvs:List (D×D)}{m:List Addr}{H:Hp}{apos:Pos}
section
variable{X:Cx}{Γ:Gm}{G:GT}{ct:CT}{c:CF}{Ex:XK}{N:List Str}{sc:Scope}{dfn:Bool}{e a b:Expr}{pos p:Pos}{x y z:E}
theorem b4L{e:Expr}{x:Str}(h:b7n e=some x):∃k q,e=.Constant (.str x) k q:=by
 unfold b7n at h
 split at h
 · split at h
   · cases h;exact⟨_,_,rfl⟩
   · cases h
 · cases h
theorem b4M{e:Expr}{i:Int}(h:b7o e=some i):∃k q,e=.Constant (.int i) k q:=by
 unfold b7o at h
 split at h
 · split at h
   · cases h;exact⟨_,_,rfl⟩
   · cases h
 · cases h
theorem b5h:∀{ks:List (Option Expr)} {vs:List Expr} {kvs:List (D×D)},a9w ks vs=some kvs->∃trs gs,PPs X pos ks vs trs/\ks.all (·.isSome)=true/\ks.length=vs.length/\ks.length=kvs.length/\gs.length=kvs.length/\kvs.map (·.1)=(gs.map (·.1)).map kDg∧
 (∀σ H Q,Q (gs.map fun kv=>(kV kv.1,kv.2)) H->a4s trs σ H Q)/\∀m H,DK m H kvs gs
 |[],vs,kvs,h=>by
  unfold a9w at h
  split at h
  · rename_i e
    cases isEmpty_iff.mp e
    cases h;exact⟨[],[],b3p,rfl,rfl,rfl,rfl,rfl,fun _ _ _ q=>q,fun _ _=>.nil⟩
  · cases h
 |k::ks,vs,kvs,h=>by
  unfold a9w at h
  split at h
  · cases h
  · rename_i v r
    split at h
    · rename_i s i l h1 h2 h3;cases h;obtain⟨e,rfl,h1⟩:=Option.bind_eq_some_iff.mp h1;obtain⟨_,_,rfl⟩:=b4L h1;obtain⟨_,_,rfl⟩:=b4M h2;obtain⟨trs,gs,g1,g2,g3,g4,g5,g6,g7,g8⟩:=b5h h3;exact⟨(tC (.str s),tC (.int i))::trs,(.inr s,.int i)::gs,b0G b0L a6S g1,g2,congrArg (· +1) g3,congrArg (· +1) g4,congrArg (· +1) g5,by rw[map_cons,g6];rfl,fun σ H Q q=>g7 σ H _ q,fun m H=>.cons ⟨rfl,rfl⟩ (g8 m H)⟩
    · cases h
theorem b7I{ks:List (Option Expr)}{vs:List Expr}(h0:ks≠[])(h:a9w ks vs=some kvs)(hk:b7k kvs=true):PE X (.Dict ks vs pos) (TEv Γ Ex (ev ct c (.dlit kvs))):=by
 unfold b7k at hk;rw[ae] at hk;have h15:=aw hk.1;obtain⟨trs,gs,g1,g2,g3,g4,g5,g6,g7,g8⟩:=b5h (X:=X) (pos:=pos) h
 have nd:(gs.map (·.1)).Nodup:=by
  have:=a3N hk.2
  rw[g6] at this;exact List.Pairwise.of_map _ (fun a b h e=>h (by rw[e])) this
 refine PE.imp (b3A g1 g2 g3 h0 (by omega)) ?_
 rintro σ H Q ⟨env,ah,m,rl,q⟩;rw[ev] at q;intro p hp;refine g7 σ _ _ ⟨b8,gs,rfl,by omega,?_⟩
 rw[a8E,a2W gs [] nd];exact q.newc rl.sim hp (.inl ⟨gs,b8,g8 _ _⟩)
theorem b7J(C:Cxt X Γ G ct c Ex N sc dfn)(hpb:V8 e=true)(hline:(apos.endLine==pos.line)=true)(hpa:l8 a=true)(hpc:l8 b=true)(ho:PE X e (TEv Γ Ex (ev ct c x)))(ha:PE X a (TEv Γ Ex (ev ct c y)))(hb:PE X b (TEv Γ Ex (ev ct c z))):
 PE X (.Call (.Attribute e "get" apos) [a,b] [] pos) (TEv Γ Ex (ev ct c (.dget x y z))):=by
 have t:backTo pos (starEach [a,b] X.env)=[(false,eval a X.env),(false,eval b X.env)]:=by rw[d0 hpa,d0 hpc];rfl
 refine PE.imp (b0Q (hu1 C.hu) ho ha hb ⟨Y0 hpb,by rw[t];rfl,hline,t⟩) ?_
 rintro σ H Q ⟨env,ah,m,rl,q⟩;rw[ev] at q;refine⟨env,ah,m,rl,d5.first rl q fun d1 ah1 m1 H1 v1 p1 k1 rl1 r1 q1=>?_⟩
 split at q1
 · rename_i hd;unfold a7g at hd
   split at hd
   · rename_i n
     split at hd
     · rename_i kvs0 e0;obtain⟨ad,rfl,hm⟩:=r1;refine⟨ad,rfl,?_,env,ah1,m1,rl1,d5.first rl1 q1 fun d2 ah2 m2 H2 v2 p2 k2 rl2 r2 q2=>⟨env,ah2,m2,rl2,d5.first rl2 q2 fun d3 ah3 m3 H3 v3 p3 k3 rl3 r3 q3=>?_⟩⟩
       · rcases rl1.sim.at hm e0 with⟨kvs,h1,_⟩|⟨kvs,h1,_⟩
         · exact .inl ⟨kvs,.inl h1⟩
         · exact .inr ⟨kvs,.inl h1⟩
       · unfold a3e at q3
         simp only at q3
         split at q3
         · rename_i kvs e3
           split at q3
           · rename_i hk;obtain⟨H',inv,kp,S',hh⟩:=a1X (X:=X) rl3.sim e3 hk (p3.get (p2.get hm));obtain⟨o,g,o1,o2⟩:=a1r kp (r2.mono p3 k3) hh;refine⟨H',inv,o,g,?_⟩
             cases hg:k8 kvs d2 with
             |none=>
              rw[hg] at o1 q3
              cases o with
              |none=>exact q3 m3 _ _ (Pre.refl m3) kp S' (r3.mono (Pre.refl m3) kp)
              |some w=>cases o1
             |some w=>
              rw[hg] at q3;obtain⟨v,rfl,rv⟩:=o2 w hg;exact q3 m3 _ _ (Pre.refl m3) kp S' rv
           · exact q3.elim
         · exact q3.elim
     · cases hd
   · cases hd
 · exact q1.elim
end
theorem a7H{m:List Addr}{H:Hp}{lo:Int}:∀l:List Nat,Rps m H (l.map fun i=>D.int (lo+(i:Nat))) (l.map fun(i:Nat)=>V.int (lo+i))
 |[]=>rfl
 |_::r=>⟨_,_,rfl,rfl,a7H r⟩
variable{X:Cx}{Γ:Gm}{G:GT}{ct:CT}{c:CF}{Ex:XK}{N:List Str}{sc:Scope}{dfn:Bool}{pos:Pos}{pos2:Pos}{p2:Pos}
theorem b7A{a b:Expr}{p:Pos}{x y:E}(C:Cxt X Γ G ct c Ex N sc dfn)(hg:G8 sc "tuple"=true)(hm:X.mg "tuple"=none)(hg2:G8 sc "range"=true)(hm2:X.mg "range"=none)(hp:l8 a=true)(hpb:l8 b=true)(ha:PE X a (TEv Γ Ex (ev ct c x)))(hb:PE X b (TEv Γ Ex (ev ct c y))):
 PE X (.Call (.Name "tuple" p) [.Call (.Name "range" p2) [a,b] [] pos2] [] pos) (TEv Γ Ex (ev ct c (.trng x y))):=by
 have hr:PE X (.Call (.Name "range" p2) [a,b] [] pos2) (tCB b8u (a5G (TEv Γ Ex (ev ct c x)) (a5G (TEv Γ Ex (ev ct c y)) b2S))):=L1 b2p (C.gl hg2) hm2 boot_range (G0 ha (G0 hb Z1 (d0 hpb)) (d0 hp)) (by decide) (by decide) (d0 hp) (M3 (by simp[hpb]))
 refine PE.imp (L1 (a9B C.calm) (C.gl hg) hm PyProof.Rows.boot_tuple (G0 hr Z1 (d0 rfl)) (by decide) (by decide) (d0 rfl) rfl) ?_
 rintro σ H Q ⟨env,ah,m,rl,q⟩;rw[ev] at q;refine⟨env,ah,m,rl,d5.first rl q fun d1 ah1 m1 H1 v1 p1 k1 rl1 r1 q1=>⟨env,ah1,m1,rl1,d5.first rl1 q1 fun d2 ah2 m2 H2 v2 p2 k2 rl2 r2 q2=>?_⟩⟩
 unfold a5F at q2
 split at q2
 · rename_i i j;cases r1;cases r2
   split at q2
   · rename_i hh;refine⟨i,j,rfl,fun r hr=>⟨r,i,j,rfl,b8,⟨(t9 hh.1.1).1,(t9 hh.1.1).2,(t9 hh.1.2).1,(t9 hh.1.2).2⟩,hh.2,fun t ht=>?_⟩⟩
     exact(q2.later (Pre.refl m2) (Keep.new hr)).newt (rl2.sim.new hr) ht (a7H _)
   · exact q2.elim
 · exact q2.elim
theorem Rps.rev{m:List Addr}{H:Hp}:∀{l:List D} {vs:List V},Rps m H l vs->Rps m H l.reverse vs.reverse
 |[],_,h=>by cases h;rfl
 |d::l,_,⟨v,vs,e,h1,h2⟩=>by
  subst e;rw[reverse_cons,reverse_cons];exact(Rps.rev h2).snoc h1
theorem c0d{a:Expr}{p:Pos}{x:E}(C:Cxt X Γ G ct c Ex N sc dfn)(hg:G8 sc "list"=true)(hm:X.mg "list"=none)(hg2:G8 sc "reversed"=true)(hm2:X.mg "reversed"=none)(hp:l8 a=true)(ha:PE X a (TEv Γ Ex (ev ct c x))):
 PE X (.Call (.Name "list" p) [.Call (.Name "reversed" p2) [a] [] pos2] [] pos) (TEv Γ Ex (ev ct c (.rev x))):=by
 refine PE.imp (b6e (C.gl hg) hm (C.gl hg2) hm2 C.calm ha (d0 hp)) ?_
 rintro σ H Q ⟨env,ah,m,rl,q⟩;rw[ev] at q;refine⟨env,ah,m,rl,d5.first rl q fun d1 ah1 m1 H1 v1 p1 k1 rl1 r1 q1=>?_⟩
 unfold b0u at q1
 split at q1
 · split at q1
   · rename_i e;obtain⟨ad,vs,rfl,_,h1,rs⟩:=rl1.sim.lst e r1;exact⟨ad,vs,rfl,h1,fun p hp=>q1.newc rl1.sim hp ⟨_,b8,rs.rev.mono (Pre.snoc m1 p) (Keep.newc hp)⟩⟩
   · exact q1.elim
 · exact q1.elim
noncomputable def TGv(Γ:Gm)(p:Pat):TG:=fun v σ H Q=>∃env d m env',EnvRel m H env σ/\Rp m H d v/\D8 p d env=some env'/\∀σ',EnvRel m H env' σ'->σ'.length=σ.length->(∀(j:Nat),j∉E7 p->σ'[j]? =σ[j]?)->Q σ' H
noncomputable def c1z(Γ:Gm)(p:Pats):TGs:=fun vs σ H Q=>∃env ds m env',EnvRel m H env σ/\Rps m H ds vs/\N7 p ds env=some env'/\∀σ',EnvRel m H env' σ'->σ'.length=σ.length->(∀(j:Nat),j∉a0m p->σ'[j]? =σ[j]?)->Q σ' H
noncomputable def a2r:Pats->Nat
 |.nil=>0
 |.cons _ r=>a2r r+1
theorem a0X:∀(ps:Pats) {ds:List D} {env env':n5},N7 ps ds env=some env'->ds.length=a2r ps
 |.nil,ds,env,env',h=>by
  cases ds with
  |nil=>rfl
  |cons d r=>simp only[N7] at h;cases h
 | .cons p r,ds,env,env',h=>by
  cases ds with
  |nil=>simp only[N7] at h;cases h
  |cons d t=>
   simp only[N7] at h
   split at h
   · rw[length_cons,a0X r h];rfl
   · cases h
variable{es:List Expr}{n:Nat}{cc:Cell}{ah:AH}{K:PySem.W.Frag}{a:Addr}{m0:List Addr}{H0:Hp}{vs:List V}{z:Str}{lo:Int}{ds:List D}{elts:List Expr}{kk:Nat}{tp:Pos}
section
theorem PG.imp{e:Expr}{t t':TG}(h:PG X e t)(i:∀v σ H Q,t' v σ H Q->t v σ H Q):PG X e t':=fun pins s σ H v u Q I r q=>h pins s σ H v u Q I r (i _ _ _ _ q)
theorem PGs.imp{t t':TGs}(h:PGs X es t)(i:∀v σ H Q,t' v σ H Q->t v σ H Q):PGs X es t':=fun pins s σ H v u Q I r q=>h pins s σ H v u Q I r (i _ _ _ _ q)
theorem a3k{env:Env}:∀{es:List Expr},(assignEach es env).length=es.length
 |[]=>rfl
 |e::r=>by
  have:=a3k (env:=env) (es:=r)
  cases e<;>simp only[assignEach,length_cons]<;>rw[this]
theorem Cxt.loc(C:Cxt X Γ G ct c Ex N sc dfn){n:Str}(h:b1w dfn sc n=true):Loc X.env.scope n/\(X.fn n=true∨X.env.scope.names.lookup n=some .local):=by
 rw[C.sc];unfold b1w at h;unfold L2.Loc
 split at h
 · rename_i e;exact⟨.inl e,.inr e⟩
 · rename_i e;exact⟨.inr e,.inl (C.fnb h n)⟩
 · cases h
theorem a2G(C:Cxt X Γ G ct c Ex N sc dfn){n:Str}{i:Nat}(h:a2H dfn N sc n=some i):X.N[i]? =some n/\Loc X.env.scope n/\(X.fn n=true∨X.env.scope.names.lookup n=some .local):=by
 unfold a2H at h
 split at h
 · rename_i hl;rw[C.hN];exact⟨a4Z h,C.loc hl⟩
 · cases h
theorem b5m (C:Cxt X Γ G ct c Ex N sc dfn):∀n,(∀e p,a9D dfn N sc n e=some p->PG X e (TGv Γ p)/\l8 e=true)/\∀es ps,a3h dfn N sc n es=some ps->PGs X es (c1z Γ ps)/\a2r ps=es.length/\(assignEach es X.env).findIdx? (·.1)=none:=by
 intro n
 induction n with
 |zero=>exact⟨fun e p h=>(by simp only[a9D] at h;cases h),fun es ps h=>(by simp only[a3h] at h;cases h)⟩
 | succ n ih=>
  obtain⟨ih1,ih2⟩:=ih;refine⟨fun e p h=>?_,fun es ps h=>?_⟩
  · cases e<;>simp only[a9D] at h<;>first|(cases h;done)|skip
    · rename_i nm pos
      cases hs:a2H dfn N sc nm with
      |none=>rw[hs] at h;cases h
      |some i=>
       rw[hs] at h;cases h
       obtain⟨h1,h2,h3⟩:=a2G C hs;refine⟨PG.imp (b3y (by rw[C.hN];exact C.nd) h1 h2 h3) ?_,rfl⟩
       rintro v σ H Q ⟨env,d,m,env',er,r,hb,q⟩;simp only[D8] at hb;cases hb;exact q _ (er.set r) (by simp) fun j hj=>List.getElem?_set_ne (fun e=>hj (by simp[E7,e]))
    · rename_i es k pos
      cases hs:a3h dfn N sc n es with
      |none=>rw[hs] at h;cases h
      |some ps=>
       rw[hs] at h;cases h
       obtain⟨h1,h2,h3⟩:=ih2 es ps hs;refine⟨PG.imp (b6a C.calm h1 a3k h3) ?_,rfl⟩
       rintro v σ H Q ⟨env,d,m,env',er,r,hb,q⟩;simp only[D8] at hb
       cases d<;>first|(cases hb;done)|skip
       rename_i ds;obtain⟨a,vs,rfl,ha,rs⟩:=r;refine⟨a,vs,rfl,.inl (.inl ha),by rw[rs.len,a0X ps hb,h2],env,ds,m,env',er,rs,hb,fun σ' r' l' s'=>q σ' r' l' s'⟩
  · cases es with
    | nil=>
     simp only[a3h] at h;cases h;refine⟨PGs.imp b3x ?_,rfl,rfl⟩
     rintro vs σ H Q ⟨env,ds,m,env',er,rs,hb,q⟩;have hl:=a0X .nil hb
     have:vs=[]:=length_eq_zero_iff.mp (rs.len.trans hl)
     subst this
     cases ds with
     |nil=>
      simp only[N7] at hb;cases hb;exact⟨rfl,q σ er rfl fun _ _=>rfl⟩
     |cons d r=>cases hl
    |cons e r=>
     simp only[a3h] at h
     split at h
     · rename_i p ps' h1 h2;cases h;obtain⟨g1,g2⟩:=ih1 e p h1;obtain⟨g3,g4,g5⟩:=ih2 r ps' h2
       have hst:(assignEach (e::r) X.env)=(false,assign e X.env)::assignEach r X.env:=by cases e<;>first|rfl|cases g2
       refine⟨PGs.imp (b0K g1 g3 (by rw[hst];rfl)) ?_,by simp only[a2r,length_cons,g4],by rw[hst,List.findIdx?_cons,g5];rfl⟩
       rintro vs σ H Q ⟨env,ds,m,env',er,rs,hb,q⟩
       cases ds with
       |nil=>simp only[N7] at hb;cases hb
       |cons d t=>
        simp only[N7] at hb
        split at hb
        · rename_i env1 hb1;obtain⟨v,vt,rfl,rd,rt⟩:=rs;refine⟨v,vt,rfl,env,d,m,env1,er,rd,hb1,fun σ1 er1 l1 s1=>⟨env1,t,m,env',er1,rt,hb,fun σ' er' l' s'=>q σ' er' (l'.trans l1) fun j hj=>?_⟩⟩
          simp only[a0m,aK,not_or] at hj;rw[s' j hj.2,s1 j hj.1]
        · cases hb
     · cases h
def a3x(Γ:Gm)(J:It)(its:List D)(g:List (Nat×Cell))(m0:List Addr)(H0:Hp):Prop:=∀(i:Nat) (ah:AH) (m:List Addr) (H:Hp),Pre m0 m->Keep m0 m H0 H->Sim Γ ah m H->gOk g ah=true→
 (i=its.length->J.stop i H)/\∀d,its[i]? =some d->J.go i H/\∀v H',J.yld i H v H'->Keep m m H H'/\Sim Γ ah m H'/\Rp m H' d v
def TIv(Γ:Gm)(E:XK)(f:n5->AH->R Its):TI:=fun σ H R=>∃env ah m,Rel Γ env ah σ H m/\f8 Γ E m H (f env ah) (fun x ah1 m1 H1=>Sim Γ ah1 m1 H1->∀J,a3x Γ J x.1 x.2 m1 H1->R J H1)
theorem b4n(h:gOk [(n,cc)] ah=true):ah[n]? =some cc:=by
 unfold gOk at h;rw[all_cons,ae] at h;exact aw h.1
theorem O9(hK:K=Γ.K){l:List D}(h:cc=.lst l∨cc=.rol l)(S:Sim Γ ah m H)(hm:m[n]? =some a)(e:ah[n]? =some cc):∃vs,SqL K H a vs/\Rps m H l vs:=by
 have:rdL ah n=some l:=by
  unfold rdL
  rcases h with rfl|rfl<;>rw[e]
 obtain⟨a',vs,e1,e2,e3,e4⟩:=S.rdL this ⟨a,rfl,hm⟩;rw[hm] at e2;cases e2;exact⟨vs,by rw[hK];exact e3,e4⟩
theorem a8e(hK:K=Γ.K){l:List D}(h:cc=.lst l∨cc=.rol l)(hm:m0[n]? =some a):a3x Γ (Itl K a) l [(n,cc)] m0 H0:=by
 intro i ah m H p k0 S g;obtain⟨vs,h1,h2⟩:=O9 hK h S (p.get hm) (b4n g);refine⟨fun hi=>⟨vs,h1,by rw[h2.len,hi];exact ai _⟩,fun d hd=>?_⟩
 obtain⟨v,hv,rv⟩:=h2.get hd;refine⟨⟨vs,v,h1,hv⟩,?_⟩
 rintro w H' ⟨rfl,hw⟩
 have:=hw vs h1
 rw[hv] at this;cases this;exact⟨Keep.refl _ _,S,rv⟩
theorem a4a:∀{l:List D} {n i:Nat} {d:D},(x4 n l)[i]? =some d->∃x,l[i]? =some x/\d=.tup [.int ((n+i:Nat):Int),x]
 |[],_,_,_,h=>by simp[x4] at h
 |x::r,n,0,d,h=>by
  simp only[x4,List.getElem?_cons_zero] at h
  cases h;exact⟨x,rfl,rfl⟩
 |x::r,n,i+1,d,h=>by
  simp only[x4,List.getElem?_cons_succ] at h
  obtain⟨y,h1,h2⟩:=a4a h;exact⟨y,by simpa using h1,by rw[h2];congr 3;omega⟩
theorem a3Z:∀{l:List D} {n:Nat},(x4 n l).length=l.length
 |[],_=>rfl
 |x::r,n=>by simp only[x4,length_cons,a3Z]
theorem a8f(hK:K=Γ.K){l:List D}(h:cc=.lst l∨cc=.rol l)(hm:m0[n]? =some a):a3x Γ (Ite K a) (x4 0 l) [(n,cc)] m0 H0:=by
 intro i ah m H p k0 S g;obtain⟨vs,h1,h2⟩:=O9 hK h S (p.get hm) (b4n g);refine⟨fun hi=>⟨vs,h1,by rw[h2.len,hi,a3Z];exact ai _⟩,fun d hd=>?_⟩
 obtain⟨x,hx,rfl⟩:=a4a hd;obtain⟨v,hv,rv⟩:=h2.get hx;refine⟨⟨vs,v,h1,hv⟩,?_⟩
 rintro w H' ⟨T,y,hT,rfl,hw,rfl⟩
 have:=hw vs h1
 rw[hv] at this;cases this;refine⟨Keep.new hT,S.new hT,T,[.int i,v],rfl,b8,.int i,[v],rfl,?_,v,[],rfl,rv.mono (Pre.refl m) (Keep.new hT),rfl⟩
 show V.int (i:Int)=V.int ((0+i:Nat):Int)
 rw[aB]
theorem b6G{l:List D}(ha:H0 a=some (.tup vs))(r:Rps m0 H0 l vs):a3x Γ (Itt K a) l [] m0 H0:=by
 intro i ah m H p k0 S g;have h1:=k0.tup ha;have h2:=r.mono p k0;refine⟨fun hi=>⟨vs,.inl (.inl h1),by rw[h2.len,hi];exact ai _⟩,fun d hd=>?_⟩
 obtain⟨v,hv,rv⟩:=h2.get hd;refine⟨⟨vs,v,.inl (.inl h1),hv⟩,?_⟩
 rintro w H' ⟨rfl,hw⟩
 have:=hw vs (.inl (.inl h1))
 rw[hv] at this;cases this;exact⟨Keep.refl _ _,S,rv⟩
theorem b6H:a3x Γ (L2.Its z) (X4 z) [] m0 H0:=by
 intro i ah m H p k0 S g;refine⟨fun hi=>?_,fun d hd=>?_⟩
 · show i=z.cps.size
   rw[hi];simp[X4]
 · unfold X4 at hd;rw[aj] at hd
   cases hc:z.cps.toList[i]? with
   |none=>rw[hc] at hd;cases hd
   | some cc=>
    rw[hc] at hd;cases hd
    have hi:i<z.cps.size:=by
     have:=(ac.mp hc).1
     simpa using this
    refine⟨hi,?_⟩
    rintro v H' ⟨rfl,c',h1,rfl⟩;rw[Array.getElem?_toList] at hc
    rw[hc] at h1;cases h1;exact⟨Keep.refl _ _,S,rfl⟩
theorem b6I:a3x Γ (Itr lo n) (rngD lo n) [] m0 H0:=by
 intro i ah m H p k0 S g;refine⟨fun hi=>?_,fun d hd=>?_⟩
 · show n<=i
   rw[hi];simp[rngD]
 · unfold rngD at hd;rw[aj] at hd
   cases hc:(List.range n)[i]? with
   |none=>rw[hc] at hd;cases hd
   |some j=>
    rw[hc] at hd;cases hd;obtain⟨h1,h2⟩:=ac.mp hc
    rw[List.getElem_range] at h2;rw[aI] at h1;subst h2;refine⟨h1,?_⟩
    rintro v H' ⟨rfl,rfl⟩;exact⟨Keep.refl _ _,S,rfl⟩
variable{tg a b:Expr}{x y:E}{p:Pos}
theorem c0c(C:Cxt X Γ G ct c Ex N sc dfn)(ha:PE X a (TEv Γ Ex (ev ct c x))):PI X tg a (TIv Γ Ex (evi ct c (.seq x))):=by
 intro pins s σ H R I ⟨env,ah,m,rl,q⟩;rw[evi] at q
 cases hr:ev ct c x env ah with
 | ok d ah1=>
  rw[hr,b9] at q;unfold V6 at q
  split at q
  · refine b5Z ha pins s σ H R I ⟨env,ah,m,rl,?_⟩
    rw[hr];intro m1 H1 v p1 k1 s1 r1;cases r1;exact⟨_,rfl,(q m1 H1 p1 k1 s1) s1 _ b6H⟩
  · refine b0I ha pins s σ H R I ⟨env,ah,m,rl,?_⟩
    rw[hr];intro m1 H1 v p1 k1 s1 r1;obtain⟨ad,vs,rfl,h1,q1⟩:=r1;exact⟨ad,rfl,⟨vs,.inl (.inl h1)⟩,(q m1 H1 p1 k1 s1) s1 _ (b6G h1 q1)⟩
  · rename_i n;refine b3u ha pins s σ H R I ⟨env,ah,m,rl,?_⟩
    rw[hr];intro m1 H1 v p1 k1 s1 r1
    split at q
    · rename_i l e;obtain⟨ad,vs,rfl,hm,h1,q1⟩:=s1.lst e r1;exact⟨ad,rfl,⟨vs,.inl (.inl h1)⟩,(q m1 H1 p1 k1 s1) s1 _ (a8e C.K (.inl rfl) hm)⟩
    · rename_i l e;obtain⟨ad,vs,rfl,hm,h1,q1⟩:=s1.rdL (l:=l) (by unfold rdL;rw[e]) r1
      exact⟨ad,rfl,⟨vs,by rw[C.K];exact h1⟩,(q m1 H1 p1 k1 s1) s1 _ (a8e C.K (.inr rfl) hm)⟩
    · exact q.elim
  · exact q.elim
 |no=>rw[hr] at q;exact q.elim
theorem c0m{n:Str}(C:Cxt X Γ G ct c Ex N sc dfn)(hg:G8 sc n=true)(ht:G.tups.lookup n=some ds):PI X tg (.Name n p) (TIv Γ Ex (evi ct c (.gsq ds))):=by
 obtain⟨ad,vs,h1,h2,h3⟩:=C.tups n ds ht
 have hb:PE X (.Name n p) (tC (.ref ad)):=a1f (C.gl hg) h1 rfl (W7 hg).2.1
 intro pins s σ H R I ⟨env,ah,m,rl,q⟩;refine b0I hb pins s σ H R I ⟨ad,rfl,⟨vs,h2 H⟩,?_⟩
 rw[evi] at q;refine q.ok rl.sim rl.sim _ ?_
 intro i ah m H p k0 S g;refine⟨fun hi=>⟨vs,h2 H,by rw[(h3 m H).len,hi];exact ai _⟩,fun d hd=>?_⟩
 obtain⟨v,hv,rv⟩:=(h3 m H).get hd;refine⟨⟨vs,v,h2 H,hv⟩,?_⟩
 rintro w H' ⟨rfl,hw⟩
 have:=hw vs (h2 H')
 rw[hv] at this;cases this;exact⟨Keep.refl _ _,S,rv⟩
theorem b7C(C:Cxt X Γ G ct c Ex N sc dfn)(hg:G8 sc "range"=true)(hm:X.mg "range"=none)(hp:l8 a=true)(ha:PE X a (TEv Γ Ex (ev ct c x))):PI X tg (.Call (.Name "range" p) [a] [] pos) (TIv Γ Ex (evi ct c (.rng1 x))):=by
 intro pins s σ H R I ⟨env,ah,m,rl,q⟩;refine a8Z (C.gl hg) hm (G0 ha Z1 (d0 hp)) (d0 hp) pins s σ H R I ⟨env,ah,m,rl,?_⟩
 rw[evi] at q;refine f8.first rl q fun d1 ah1 m1 H1 v1 p1 k1 rl1 r1 q1=>?_
 unfold b0n at q1
 split at q1
 · rename_i i j e1;cases e1;cases r1
   split at q1
   · rename_i hh;refine⟨j,rfl,(t9 hh.2).1,(t9 hh.2).2,?_⟩
     have:=q1.ok rl1.sim rl1.sim (Itr 0 (j-0).toNat) b6I
     rwa [Int.sub_zero] at this
   · exact q1.elim
 · exact q1.elim
theorem b3V{hi:Int}:a3x Γ (Itn hi n) ((List.range n).map fun k=>D.int (hi-(k:Nat))) [] m0 H0:=by
 intro i ah m H p k S _;refine⟨fun h=>?_,fun d h=>?_⟩
 · rw[aa,aI] at h
   show n<=i
   omega
 · rw[aj] at h
   obtain⟨k,h1,rfl⟩:=Option.map_eq_some_iff.mp h;obtain⟨h2,h3⟩:=ac.mp h1
   rw[List.getElem_range] at h3;rw[aI] at h2;subst h3;refine⟨h2,?_⟩
   rintro v H' ⟨rfl,rfl⟩;exact⟨Keep.refl _ _,S,rfl⟩
theorem b7B{k:_}{q q2:Pos}(C:Cxt X Γ G ct c Ex N sc dfn)(hg:G8 sc "range"=true)(hm:X.mg "range"=none)(hp:l8 a=true)(hpb:l8 b=true)(ha:PE X a (TEv Γ Ex (ev ct c x)))(hb:PE X b (TEv Γ Ex (ev ct c y))):PI X tg (.Call (.Name "range" p) [a,b,.UnaryOp .USub (.Constant (.int 1) k q) q2] [] pos) (TIv Γ Ex (evi ct c (.rngD x y))):=by
 intro pins s σ H R I ⟨env,ah,m,rl,qq⟩;refine b3w (C.gl hg) hm (G0 ha (G0 hb (G0 (b5n (a_k (Γ:=Γ) (E:=Ex) (dd:=.int 1) a6S (fun _ _=>rfl) c ct)) Z1 rfl) (d0 hpb)) (d0 hp)) (d0 hp) (M3 (by rw[all_cons,hpb];rfl)) pins s σ H R I ⟨env,ah,m,rl,?_⟩
 rw[evi] at qq;refine f8.first rl qq fun d1 ah1 m1 H1 v1 p1 k1 rl1 r1 q1=>?_
 refine⟨env,ah1,m1,rl1,f8.first rl1 q1 fun d2 ah2 m2 H2 v2 p2 k2 rl2 r2 q2=>?_⟩
 unfold dnI at q2
 split at q2
 · cases r1;cases r2
   split at q2
   · rename_i hh;refine⟨env,ah2,m2,rl2,?_⟩
     rw[ev,ev]
     show d5 Γ Ex m2 H2 (.ok (.int (-1)) ah2) _
     intro m3 H3 v p3 k3 s3 r3;cases r3;exact⟨_,_,rfl,⟨(t9 hh.1).1,(t9 hh.1).2,(t9 hh.2).1,(t9 hh.2).2⟩,(f8.later q2 p3 k3).ok s3 s3 _ b3V⟩
   · exact q2.elim
 · exact q2.elim
theorem c1b{g:Nat×Cell}{g':List (Nat×Cell)}(h:gOk (g::g') ah=true):ah[g.1]? =some g.2/\gOk g' ah=true:=by
 unfold gOk at h⊢;rw[all_cons,ae] at h;exact⟨aw h.1,h.2⟩
theorem a6h{a:List D×Cell}(h:a6i ah n=some a):ah[n]? =some a.2/\(a.2=.lst a.1∨a.2=.rol a.1):=by
 unfold a6i at h
 split at h
 · rename_i l e;cases h;exact⟨e,.inl rfl⟩
 · rename_i l e;cases h;exact⟨e,.inr rfl⟩
 · cases h
theorem a5B:∀{l l':List D} {i:Nat} {d:D},(a0Z l l')[i]? =some d->∃x y,l[i]? =some x/\l'[i]? =some y/\d=.tup [x,y]
 |[],l',i,d,h=>by simp[a0Z] at h
 |x::xs,[],i,d,h=>by simp[a0Z] at h
 |x::xs,y::ys,0,d,h=>by
  simp only[a0Z,List.getElem?_cons_zero] at h
  cases h;exact⟨x,y,rfl,rfl,rfl⟩
 |x::xs,y::ys,i+1,d,h=>by
  simp only[a0Z,List.getElem?_cons_succ] at h
  obtain⟨a,b,h1,h2,h3⟩:=a5B h;exact⟨a,b,by simpa using h1,by simpa using h2,h3⟩
theorem a5A:∀{l l':List D},l.length<=(a0Z l l').length∨l'.length<=(a0Z l l').length
 |[],l'=>.inl (Nat.zero_le _)
 |x::xs,[]=>.inr (Nat.zero_le _)
 |x::xs,y::ys=>by
  simp only[a0Z,length_cons]
  rcases a5A (l:=xs) (l':=ys) with h|h
  · exact .inl (Nat.succ_le_succ h)
  · exact .inr (Nat.succ_le_succ h)
theorem b6F(hK:K=Γ.K){n':Nat}{a a':Addr}{l l':List D}{cc':Cell}(h:cc=.lst l∨cc=.rol l)(h':cc'=.lst l'∨cc'=.rol l')(hm:m0[n]? =some a)(hm':m0[n']? =some a'):
 a3x Γ (Itz K a a') (a0Z l l') [(n,cc),(n',cc')] m0 H0:=by
 intro i ah m H p k0 S g;obtain⟨g1,g2⟩:=c1b g;obtain⟨vs,h1,h2⟩:=O9 hK h S (p.get hm) g1;obtain⟨ws,h3,h4⟩:=O9 hK h' S (p.get hm') (b4n g2);refine⟨fun hi=>⟨vs,ws,h1,h3,?_⟩,fun d hd=>?_⟩
 · rw[h2.len,h4.len,hi];exact a5A
 · obtain⟨x,y,hx,hy,rfl⟩:=a5B hd;obtain⟨v,hv,rv⟩:=h2.get hx;obtain⟨u,hu,ru⟩:=h4.get hy;refine⟨⟨vs,ws,v,u,h1,h3,hv,hu⟩,?_⟩
   rintro w H' ⟨T,z,z',hT,rfl,hw,hw',rfl⟩;have e1:=hw vs h1;have e2:=hw' ws h3;rw[hv] at e1;rw[hu] at e2;cases e1;cases e2;exact⟨Keep.new hT,S.new hT,T,[v,u],rfl,b8,v,[u],rfl,rv.mono (Pre.refl m) (Keep.new hT),u,[],rfl,ru.mono (Pre.refl m) (Keep.new hT),rfl⟩
theorem b9Z(C:Cxt X Γ G ct c Ex N sc dfn)(hg:G8 sc "zip"=true)(hm:X.mg "zip"=none)(hp:l8 a=true)(hpb:l8 b=true)(ha:PE X a (TEv Γ Ex (ev ct c x)))(hb:PE X b (TEv Γ Ex (ev ct c y))):PI X (.Tuple elts kk tp) (.Call (.Name "zip" p) [a,b] [] pos) (TIv Γ Ex (evi ct c (.zip x y))):=by
 intro pins s σ H R I ⟨env,ah,m,rl,q⟩;refine b5Y (C.gl hg) hm (G0 ha (G0 hb Z1 (d0 hpb)) (d0 hp)) (d0 hp) (M3 (by simp[hpb])) pins s σ H R I ⟨env,ah,m,rl,?_⟩
 rw[evi] at q;refine f8.first rl q fun d1 ah1 m1 H1 v1 p1 k1 rl1 r1 q1=>?_
 refine⟨env,ah1,m1,rl1,f8.first rl1 q1 fun d2 ah2 m2 H2 v2 p2 k2 rl2 r2 q2=>?_⟩
 unfold b2D at q2
 split at q2
 · split at q2
   · rename_i e1 e2;obtain⟨c1,w1⟩:=a6h e1;obtain⟨c2,w2⟩:=a6h e2;obtain⟨ad,rfl,hm1⟩:=r1.mono p2 k2;obtain⟨ad',rfl,hm2⟩:=r2;obtain⟨vs,h1,_⟩:=O9 C.K w1 rl2.sim hm1 c1;obtain⟨ws,h2,_⟩:=O9 C.K w2 rl2.sim hm2 c2;exact⟨ad,ad',vs,ws,rfl,h1,h2,q2.ok rl2.sim rl2.sim _ (b6F C.K w1 w2 hm1 hm2)⟩
   · exact q2.elim
 · exact q2.elim
theorem b7G(C:Cxt X Γ G ct c Ex N sc dfn)(hg:G8 sc "enumerate"=true)(hm:X.mg "enumerate"=none)(hp:l8 a=true)(ha:PE X a (TEv Γ Ex (ev ct c x))):PI X (.Tuple elts kk tp) (.Call (.Name "enumerate" p) [a] [] pos) (TIv Γ Ex (evi ct c (.enum x))):=by
 intro pins s σ H R I ⟨env,ah,m,rl,q⟩;refine b3v (C.gl hg) hm (G0 ha Z1 (d0 hp)) (d0 hp) pins s σ H R I ⟨env,ah,m,rl,?_⟩
 rw[evi] at q;refine f8.first rl q fun d1 ah1 m1 H1 v1 p1 k1 rl1 r1 q1=>?_
 unfold Y4 at q1
 split at q1
 · split at q1
   · rename_i l e;obtain⟨ad,vs,rfl,hm,h1,_⟩:=rl1.sim.lst e r1;exact⟨ad,vs,rfl,.inl (.inl h1),q1.ok rl1.sim rl1.sim _ (a8f C.K (.inl rfl) hm)⟩
   · rename_i l e;obtain⟨ad,vs,rfl,hm,h1,_⟩:=rl1.sim.rdL (l:=l) (by unfold rdL;rw[e]) r1
     exact⟨ad,vs,rfl,by rw[C.K];exact h1,q1.ok rl1.sim rl1.sim _ (a8f C.K (.inr rfl) hm)⟩
   · exact q1.elim
 · exact q1.elim
end
variable{env:n5}{σ:St}{own:List Str}{js:List Nat}{p:Pat}{α:Type}{Q:VK}{e:E}{ah1:AH}{m1:List Addr}{H1:Hp}{it:I}{l:List (D×D)}{d:D}{u:HO}{m':List Addr}{H':Hp}{od:Obj}{elt:Expr}{iter:Expr}{tg:Expr}{ifs:List Expr}{scope:Scope}{frees:List Str}{op:CmpOp}{β:Type}
section
theorem a6r(h:EnvRel m H env σ)(own:List Str)(js:List Nat):EnvRel m H (u9 own.length js env) (C0 own js σ):=by
 refine⟨by simp[u9,C0],fun i d e=>?_⟩
 unfold u9 at e;unfold C0
 by_cases hi:i<own.length
 · rw[av (by simpa using hi),bF,ay hi] at e
   cases e
 · have hi':own.length<=i:=aX hi
   rw[aq (by simpa using hi'),bt,aj] at e
   rw[aq (by simpa using hi'),aa,aj]
   cases hj:js[i-own.length]? with
   |none=>rw[hj] at e;cases e
   | some j=>
    rw[hj] at e
    have e':(env[j]?).join=some d:=ax e
    have e2:env[j]? =some (some d):=by
     cases q:env[j]? with
     |none=>rw[q] at e';cases e'
     |some z=>rw[q] at e';exact congrArg some e'
    obtain⟨v,h1,h2⟩:=h.val j d e2;exact⟨v,by rw[Option.map_some,h1];rfl,h2⟩
theorem b2E{σ4:St}(hp:(E7 p).all (fun i=>decide (i<own.length))=true)(hl:σ4.length=(C0 own js σ).length)(hs:∀(j:Nat),j∉E7 p->σ4[j]? =(C0 own js σ)[j]?):Wk (C0 own js σ) σ4:=by
 refine⟨hl.symm,fun i v h=>?_⟩
 rw[hs i]
 · exact h
 · intro hm
   have:=aw (bu.mp hp i hm)
   unfold C0 at h;rw[av (by simpa using this),aj] at h
   cases q:own[i]? with
   |none=>rw[q] at h;cases h
   |some z=>rw[q] at h;cases h
theorem a7V{r:R α}{f:α->AH->R D}(h:d5 Γ Ex m H (r.bind f) Q):∃a ah,r=.ok a ah/\d5 Γ Ex m H (f a ah) Q:=by
 cases r with
 |ok a ah=>exact⟨a,ah,rfl,h⟩
 |no=>exact h.elim
def CW(own:List Str)(js:List Nat)(g:TG)(tc:TT)(te:TE)(σ:St)(J:It)(H1:Hp)(Q:VK):Prop:=∀D,H1 D=none→
 ∃ W:Nat->Nat->List V->Hp->Prop,(∃m,W 0 m [] (upd H1 D (.lst [])))/\∀i m ys H2,W i m ys H2→
  (J.stop i H2/\Q (.ref D) H2)∨(J.go i H2/\∀x H3,J.yld i H2 x H3->g x (C0 own js σ) H3 fun σ4 H4=>Wk (C0 own js σ) σ4/\tc σ4 H4 fun b H5=>
   if b=true then te σ4 H5 fun y H6=>H6 D=some (.lst ys)/\ys.length<sizeLine/\∃m',m'<m/\W (i+1) m' (ys++[y]) (upd H6 D (.lst (ys++[y])))
   else∃m',m'<m/\W (i+1) m' ys H5)
theorem a4e {t:T} {x:Its} {J:It} (hp:(E7 p).all (fun i=>decide (i<own.length))=true)
 (er1:EnvRel m1 H1 env σ) (s1:Sim Γ ah1 m1 H1) (hJ:a3x Γ J x.1 x.2 m1 H1) (q1:d5 Γ Ex m1 H1 ((D7 x.2 p (tst ct c t) (ev ct c e) (u9 own.length js env) x.1 [] ah1).bind fun ds h2=>o5 (.lst ds) h2) Q):
 CW own js (TGv Γ p) (TTv Γ E0 (tst ct c t)) (TEv Γ E0 (ev ct c e)) σ J H1 Q:=by
 intro D hD
 refine⟨fun i mm ys H2=>mm=x.1.length-i/\i<=x.1.length/\∃acc ah2 m2,Sim Γ ah2 m2 H2/\Pre m1 m2/\Keep m1 m2 H1 H2/\D∉m2/\H2 D=some (.lst ys)/\Rps m2 H2 acc ys∧
  d5 Γ Ex m1 H1 ((D7 x.2 p (tst ct c t) (ev ct c e) (u9 own.length js env) (x.1.drop i) acc ah2).bind fun ds h2=>o5 (.lst ds) h2) Q,?_,?_⟩
 · exact⟨_,rfl,Nat.zero_le _,[],ah1,m1,s1.new hD,Pre.refl _,Keep.new hD,s1.fresh hD,b8,rfl,q1⟩
 · rintro i mm ys H2 ⟨hmm,hil,acc,ah2,m2,s2,p2,k2,nD,hD2,rs2,q2⟩
   by_cases hend:i=x.1.length
   · refine .inl ?_
     rw[hend,drop_length] at q2;obtain⟨ds,ah3,e3,q3⟩:=a7V q2;unfold D7 at e3
     split at e3
     · rename_i hgk;cases e3;refine⟨(hJ i ah2 m2 H2 p2 k2 s2 hgk).1 hend,?_⟩
       have sm:Sim Γ (ah2++[.lst acc]) (m2++[D]) H2:=by
        refine⟨by simp[s2.len],a0L s2.nd nD,fun n a cc hn hcc=>?_⟩
        have kk:Keep m2 m2 H2 H2:=Keep.refl _ _
        by_cases hl:n<m2.length
        · rw[av hl] at hn
          rw[av (by rw[←s2.len];exact hl)] at hcc
          exact(s2.at hn hcc).mono' (Pre.snoc m2 D) (fun _ _ _ z=>z) rfl
        · have hn':n=m2.length:=by
           have:=(ac.mp hn).1
           simp at this;omega
          subst hn';rw[aq (ai _)] at hn
          rw[s2.len,aq (ai _)] at hcc
          simp at hn hcc;subst hn;subst hcc
          exact⟨ys,hD2,rs2.mono' (Pre.snoc m2 D) fun _ _ _ z=>z⟩
       refine q3 (m2++[D]) H2 (.ref D) (p2.trans (Pre.snoc m2 D)) ⟨k2.imm,k2.out,fun a ha=>?_⟩ sm ⟨D,rfl,?_⟩
       · rcases aK.mp ha with z|z
         · exact k2.fr a z
         · simp at z;subst z;exact .inr hD
       · rw[←s2.len,aq (ai _)];simp
     · cases e3
   · refine .inr ?_
     have hlt:i<x.1.length:=Nat.lt_of_le_of_ne hil hend
     have hdi:x.1[i]? =some x.1[i]:=af hlt
     rw[List.drop_eq_getElem_cons hlt] at q2;generalize hdd:x.1[i]=dd at q2 hdi;obtain⟨ds,ah3,e3,q3⟩:=a7V q2;unfold D7 at e3
     split at e3
     · rename_i hgk;obtain⟨go,yl⟩:=(hJ i ah2 m2 H2 p2 k2 s2 hgk).2 dd hdi;refine⟨go,fun v H3 hy=>?_⟩
       obtain⟨k3,s3,r3⟩:=yl v H3 hy
       split at e3
       · cases e3
       · rename_i envb hb
         have er3:EnvRel m2 H3 (u9 own.length js env) (C0 own js σ):=a6r ((er1.mono p2 k2).mono (Pre.refl m2) k3) own js
         refine⟨_,dd,m2,envb,er3,r3,hb,fun σ4 er4 l4 s4=>⟨b2E hp l4 s4,envb,ah2,m2,⟨s3,er4⟩,?_⟩⟩
         have hD3:H3 D=some (.lst ys):=k3.out D _ nD hD2
         have ab:∀{m9:List Addr} {H9:Hp},Pre m2 m9->Keep m2 m9 H3 H9->D∉m9/\H9 D=some (.lst ys):=fun{m9 H9} p9 k9=>
          ⟨fun z=>(k9.fr D z).elim nD fun y=>(by rw[hD3] at y;cases y),k9.out D _ nD hD3⟩
         cases ht:tst ct c t envb ah2 with
         |no=>rw[ht] at e3;cases e3
         | ok bb ah4=>
          rw[ht,b9] at e3;intro m5 H5 p5 k5 s5;obtain⟨nD5,hD5⟩:=ab p5 k5;have k25:=k3.trans k5
          cases bb with
          |false=>
           rw[az (by decide)] at e3
           refine b8S ⟨x.1.length-(i+1),by omega,rfl,hlt,acc,ah4,m5,s5,p2.trans p5,k2.trans k25,nD5,hD5,rs2.mono p5 k25,?_⟩
           rw[e3];exact q3
          | true=>
           rw[ay rfl] at e3;refine b8R ⟨envb,ah4,m5,⟨s5,er4.mono p5 k5⟩,?_⟩
           cases hv:ev ct c e envb ah4 with
           |no=>rw[hv] at e3;cases e3
           | ok d6 ah6=>
            rw[hv,b9] at e3
            split at e3
            · rename_i hz;intro m6 H6 v6 p6 k6 s6 r6;have k36:=k5.trans k6;obtain⟨nD6,hD6⟩:=ab (p5.trans p6) k36;have rs6:=rs2.mono (p5.trans p6) (k25.trans k6)
              have im6:∀b o,Im o->H6 b=some o->upd H6 D (.lst (ys++[v6])) b=some o:=fun b o io hbo=>by
               have:b≠D:=fun z=>by rw[z,hD6] at hbo;cases hbo;exact io
               rw[c9 this];exact hbo
              refine⟨hD6,by rw[rs6.len,←Q1];exact hz,x.1.length-(i+1),by omega,rfl,hlt,acc++[d6],ah6,m6,?_,p2.trans (p5.trans p6),?_,nD6,b8,(rs6.snoc r6).mono' (Pre.refl m6) (fun b o i h=>im6 b o (imt i) h),?_⟩
              · refine⟨s6.len,s6.nd,fun n a cc hn hcc=>(s6.at hn hcc).mono' (Pre.refl m6) (fun b o i h=>im6 b o (imt i) h) ?_⟩
                exact c9 fun z=>nD6 (by rw[←z];exact aG hn)
              · have kall:=k2.trans (k25.trans k6);refine⟨fun b o io hb=>im6 b o io (kall.imm b o io hb),fun b o nb hb=>?_,kall.fr⟩
                rw[c9 (o4 hb hD)];exact kall.out b o nb hb
              · rw[e3];exact q3
            · cases e3
     · cases e3
theorem a6w{t:T}(hp:(E7 p).all (fun i=>decide (i<own.length))=true):∀σ H Q,TEv Γ Ex (ev ct c (.comp p it own.length js t e)) σ H Q->a5H own js (TIv Γ Ex (evi ct c it)) (TGv Γ p) (TTv Γ E0 (tst ct c t)) (TEv Γ E0 (ev ct c e)) σ H Q:=by
 rintro σ H Q ⟨env,ah,m,rl,q⟩;rw[ev] at q;exact⟨env,ah,m,rl,q.bind.mp fun x ah1 m1 H1 p1 k1 s1 q1=>fun _ J hJ=>a4e hp (rl.env.mono p1 k1) s1 hJ q1⟩
theorem a7e{i:Nat}(h:(U2 l)[i]? =some d):∃p,l[i]? =some p/\d=.tup [p.1,p.2]:=by
 unfold U2 at h;rw[aj] at h
 obtain⟨p,h1,h2⟩:=Option.map_eq_some_iff.mp h;exact⟨p,h1,h2.symm⟩
theorem DK.get{kvs:List (Key×V)}(r:DK m H l kvs):∀{i:Nat} {p:D×D},l[i]? =some p->∃q,kvs[i]? =some q/\E9 p.1=some q.1/\Rp m H p.2 q.2:=by
 induction r with
 |nil=>intro i p h;cases i<;>cases h
 | @cons a b as bs h t ih=>
  intro i p e
  cases i with
  |zero=>cases ax e;exact⟨b,rfl,h.1,h.2⟩
  |succ i=>exact ih e
theorem DK.len{kvs:List (Key×V)}(r:DK m H l kvs):l.length=kvs.length:=Paired.length r
theorem a8a{k:Key}(h:E9 d=some k):Rp m H d (kV k):=by
 cases d<;>first|(cases h;rfl)|cases h
theorem a6j{m:List Addr}{H:Hp}:∀{l:List D} {ks:List Key},u7 l=some ks->Rps m H l (ks.map kV)
 |[],ks,h=>by cases h;rfl
 |d::r,ks,h=>by
  unfold u7 at h
  split at h
  · rename_i k ks' h1 h2;cases h;exact⟨kV k,ks'.map kV,rfl,a8a h1,a6j h2⟩
  · cases h
theorem b7j {kvs:List (V×V)} (r:DU m H l u) (hu:H1 a=some u) (di:DIt H1 a kvs) (kt:∀b xs,H1 b=some (.tup xs)->H b=some (.tup xs)):
 kvs.length=l.length/\∀{i:Nat} {p:D×D},l[i]? =some p->∃q,kvs[i]? =some q/\Rp m H p.1 q.1/\Rp m H p.2 q.2:=by
 rcases r with⟨gs,rfl,r⟩|⟨gs,rfl,r⟩
 · rcases di with⟨l',e1,rfl⟩|⟨l',e1,_⟩
   · rw[hu] at e1;cases e1;refine⟨by rw[aa];exact r.len.symm,fun{i p} hp=>?_⟩
     obtain⟨q,h1,h2,h3⟩:=r.get hp;exact⟨(kV q.1,q.2),by rw[aj,h1];rfl,a8a h2,h3⟩
   · rw[hu] at e1;cases e1
 · rcases di with⟨l',e1,_⟩|⟨l',e1,pr⟩
   · rw[hu] at e1;cases e1
   · rw [hu] at e1;cases e1;refine⟨(Paired.length pr).symm.trans (Paired.length r).symm,fun{i p} hp=>?_⟩
     have go:∀{l:List (D×D)} {gs:List (List Key×V)} {kvs:List (V×V)},DT m H l gs->Paired (fun p q=>(∃b,q.1=V.ref b/\H1 b=some (.tup (p.1.map kV)))/\p.2=q.2) gs kvs->∀{i:Nat} {p:D×D},l[i]? =some p->∃q,kvs[i]? =some q/\Rp m H p.1 q.1/\Rp m H p.2 q.2:=by
      intro l gs kvs r
      induction r generalizing kvs with
      |nil=>intro _ i p h;cases i<;>cases h
      | @cons x y xs ys h t ih=>
       intro pr i p e
       cases pr with
       | @cons _ z _ zs h' t'=>
        cases i with
        |zero=>
         cases ax e
         obtain⟨⟨ld,e1,e2⟩,e3⟩:=h;obtain⟨⟨b,e4,e5⟩,e6⟩:=h';refine⟨z,rfl,?_,by rw[←e6];exact e3⟩
         rw[e1,e4];exact⟨b,_,rfl,kt _ _ e5,a6j e2⟩
        |succ i=>exact ih t' e
     exact go r pr hp
theorem DU.mono(r:DU m H l u)(p:Pre m m')(k:KIm H H'):DU m' H' l u:=by
 rcases r with⟨kvs,z,r⟩|⟨kvs,z,r⟩
 · exact .inl ⟨kvs,z,r.mono p k⟩
 · exact .inr ⟨kvs,z,r.mono p k⟩
theorem b1t{kvs:List (V×V)}(r0:DU m0 H0 l u)(h0:H0 a=some (.frz od u))(hu:H1 a=some u)(di:DIt H1 a kvs)(kt:∀b xs,H1 b=some (.tup xs)->H0 b=some (.tup xs)):a3x Γ (Itd a od u kvs) (U2 l) [(n,.rod l)] m0 H0:=by
 intro i ah m H p k0 S g;have hd:=k0.imm a (.frz od u) trivial h0;obtain⟨hl,get⟩:=b7j (r0.mono p k0.im) hu di fun b xs e=>k0.imm b _ trivial (kt b xs e)
 refine⟨fun hi=>⟨hd,?_⟩,fun d h=>?_⟩
 · rw[hi,U2,aa,hl];exact ai _
 · obtain⟨x,hx,rfl⟩:=a7e h;obtain⟨q,hq,hk,rq⟩:=get hx;refine⟨⟨hd,q,hq⟩,?_⟩
   rintro w H' ⟨T,q',hT,rfl,hq',rfl⟩;rw[hq] at hq';cases hq';exact⟨Keep.new hT,S.new hT,T,[q.1,q.2],rfl,b8,q.1,[q.2],rfl,hk.mono (Pre.refl m) (Keep.new hT),q.2,[],rfl,rq.mono (Pre.refl m) (Keep.new hT),rfl⟩
theorem a1I{g:List (Nat×Cell)}{p:Pat}{tt:n5->AH->R Bool}{el:n5->AH->R D}{env0:n5}:∀{l acc ds:List D} {h h':AH},D7 g p tt el env0 l acc h=.ok ds h'->gOk g h'=true
 |[],acc,ds,h,h',q=>by
  unfold D7 at q
  split at q
  · rename_i hg;cases q;exact hg
  · cases q
 |x::r,acc,ds,h,h',q=>by
  unfold D7 at q
  split at q
  · split at q
    · cases q
    · rename_i env _
      cases e1:tt env h with
      |no=>rw[e1] at q;cases q
      |ok b h1=>
       rw[e1,b9] at q
       split at q
       · cases e2:el env h1 with
         |no=>rw[e2] at q;cases q
         |ok d h2=>
          rw[e2,b9] at q
          split at q
          · exact a1I q
          · cases q
       · exact a1I q
  · cases q
theorem a8L{r:R (List D)}{k:Nat}{H₀:Hp}(hm:m1[k]? =some a)(hd:H1 a=some u)(r1:DU m1 H1 l u)(h0:∀o u,H₀ a≠some (.frz o u))
 (he:∀ds h2,r=.ok ds h2->h2[k]? =some (.rod l)) (q:d5 Γ Ex m1 H1 (r.bind fun ds h2=>o5 (.lst ds) (h2.set k (.dict l))) Q):
 d5 Γ Ex m1 (upd H1 a (.frz od u)) (r.bind fun ds h2=>o5 (.lst ds) h2) (fun v=>a7y H₀ (Q v)):=by
 cases r with
 |no=>exact q.elim
 | ok ds h2=>
  rw[b9] at q⊢;have e2:=he ds h2 rfl
  have kl:k<h2.length:=(ac.mp e2).1
  intro m' H' v p' k' s' rv
  have hf:H' a=some (.frz od u):=k'.imm a (.frz od u) trivial b8
  refine⟨a,od,u,hf,h0,?_⟩
  have nim:¬Im u:=fun z=>by have:=r1.is;cases u<;>first|exact this|exact z
  have ne:∀{b o},H1 b=some o->Im o->b≠a:=fun hb io z=>by rw[z,hd] at hb;cases hb;exact nim io
  have thT:KIm H' (upd H' a u):=fun b o io hb=>by
   rw[c9 (fun z=>by rw[z,hf] at hb;cases hb;exact io)];exact hb
  have kp:Keep m1 m' H1 (upd H' a u):=by
   refine⟨fun b o io hb=>?_,fun b o n hb=>?_,fun b hb=>?_⟩
   · have nb:=ne hb io;rw[c9 nb];exact k'.imm b o io (by rw[c9 nb];exact hb)
   · have nb:b≠a:=fun z=>n (by rw[z];exact aG hm)
     rw[c9 nb];exact k'.out b o n (by rw[c9 nb];exact hb)
   · rcases k'.fr b hb with z|z
     · exact .inl z
     · refine .inr ?_
       rw[←z,c9];rintro rfl;rw[b8] at z;cases z
  have rr:DU m' (upd H' a u) l u:=by
   refine r1.mono p' fun b o io hb=>?_
   have nb:=ne hb (imt io);rw[c9 nb];exact k'.imm b o (imt io) (by rw[c9 nb];exact hb)
  have hm':=p'.get hm
  have len:(h2.set k (.dict l)).length=h2.length:=aN ..
  refine q m' _ v p' kp ?_ ?_
  · refine⟨by rw[s'.len,ao,ao,len],s'.nd,fun n b cc hn hc=>?_⟩
    by_cases e:n=k
    · subst e;rw[hm'] at hn;cases hn;rw[av (by rw[len];exact kl),List.getElem?_set_self kl] at hc
      cases hc
      rcases rr with⟨kvs,z,rr⟩|⟨kvs,z,rr⟩
      · exact .inl ⟨kvs,by rw[b8,z],rr⟩
      · exact .inr ⟨kvs,by rw[b8,z],rr⟩
    · have hc':(h2++[Cell.lst ds])[n]? =some cc:=by
       by_cases hn2:n<h2.length
       · rw[av (by rw[len];exact hn2),List.getElem?_set_ne (Ne.symm e)] at hc
         rw[av hn2]
         exact hc
       · rw[aq (by rw[len];omega),len] at hc
         rw[aq (by omega)]
         exact hc
      have nb:b≠a:=fun z=>by
       subst z;obtain⟨g1,e1⟩:=ac.mp hn
       obtain⟨g2,e2⟩:=ac.mp hm'
       exact e ((getElem_inj s'.nd).mp (e1.trans e2.symm))
      exact(s'.at hn hc').mono' (Pre.refl m') thT (c9 nb)
  · rw[show(h2.set k (.dict l)).length=h2.length from len];exact rv.mono' (Pre.refl m') thT
theorem a4f{x:E}{t:T}(hp:(E7 p).all (fun i=>decide (i<own.length))=true):
 ∀σ H Q,TEv Γ Ex (ev ct c (.compI p x own.length js t e)) σ H Q->a5H own js (a7j X.H₀ (TEv Γ Ex (ev ct c x))) (TGv Γ p) (TTv Γ E0 (tst ct c t)) (TEv Γ E0 (ev ct c e)) σ H (fun v=>a7y X.H₀ (Q v)):=by
 rintro σ H Q ⟨env,ah,m,rl,q⟩;rw[ev] at q;refine⟨env,ah,m,rl,d5.first rl q fun d1 ah1 m1 H1 v1 p1 k1 rl1 r1 q1=>?_⟩
 cases hd:a8y ah1 d1 with
 |none=>rw[hd] at q1;exact q1.elim
 |some kl=>
  obtain⟨k,l⟩:=kl;rw[hd] at q1;unfold a8y at hd
  split at hd
  · rename_i n
    split at hd
    · rename_i l' e1;cases hd;obtain⟨a,rfl,hm⟩:=r1
      obtain⟨u,hH,du⟩:∃u,H1 a=some u/\DU m1 H1 l u:=by
       rcases rl1.sim.at hm e1 with⟨kvs,hH,dk⟩|⟨kvs,hH,dt⟩
       · exact⟨_,hH,.inl ⟨kvs,rfl,dk⟩⟩
       · exact⟨_,hH,.inr ⟨kvs,rfl,dt⟩⟩
      refine⟨a,u,rfl,hH,du.is,fun od kvs di h0=>?_⟩
      have nim:¬Im u:=fun z=>by have:=du.is;cases u<;>first|exact this|exact z
      have kp:Keep m1 m1 H1 (upd H1 a (.frz od u)):=Keep.put hm hH nim
      have du':=du.mono (Pre.refl m1) kp.im
      exact a4e (x:=(U2 l,[(k,.rod l)])) hp (rl1.env.mono (Pre.refl m1) kp) (rl1.sim.write (c:=.rod l) hm hH nim ⟨u,od,b8,du'⟩) (b1t du' b8 hH di fun b xs e=>kp.imm b _ trivial e)
       (a8L hm hH du h0 (fun ds h2 z=>b4n (a1I z)) q1)
    · cases hd
  · cases hd
theorem b7L{t:T}(C:Cxt X Γ G ct c Ex N sc dfn)(hi:PI X tg iter (TIv Γ Ex (evi ct c it)))(S:CompScope X.env.scope scope own frees)(hj:frees.map some=js.map (X.N[·]?))
 (hg:∀C s₀ H₀ ex,PG (o6 X own frees scope C s₀ H₀ ex) tg (TGv Γ p)) (hc:∀C s₀ H₀ ex,a6E (o6 X own frees scope C s₀ H₀ ex) ifs (TTv Γ E0 (tst ct c t))) (he:∀C s₀ H₀ ex,PE (o6 X own frees scope C s₀ H₀ ex) elt (TEv Γ E0 (ev ct c e)))
 (hs:∀x,foldedSetIterable iter X.env x=pure x) (hp:(E7 p).all (fun i=>decide (i<own.length))=true):PE X (.ListComp elt [⟨tg,iter,ifs,0⟩] scope pos) (TEv Γ Ex (ev ct c (.comp p it own.length js t e))):=by
 exact PE.imp (a2M C.calm hi S hj hg hc he hs) (a6w hp)
theorem Cxt.comp(C:Cxt X Γ G ct c Ex N sc dfn)(S:CompScope sc scope own frees)(D:Addr)(s₀:Shared)(H₀:Hp)(ex:List Addr):Cxt (o6 X own frees scope D s₀ H₀ ex) Γ G ct c E0 (own++frees) (a7O sc scope) false where
 hN:=rfl
 nd:=S.nd
 sc:=by rw[←C.sc];rfl
 calm:=C.calm
 hu:=C.hu
 K:=C.K
 fnb:=fun h=>by cases h
 scal:=C.scal
 tups:=C.tups
 dicts:=C.dicts
 blt:=C.blt
 fn:=C.fn
 obj:=C.obj
 att:=C.att
theorem a8j:∀{l:List Str} {js:List Nat},b4a N l=some js->l.map some=js.map (N[·]?)
 |[],js,h=>by cases h;rfl
 |x::r,js,h=>by
  unfold b4a at h
  split at h
  · rename_i i is h1 h2;cases h;rw[map_cons,map_cons,a4Z h1,a8j h2]
  · cases h
theorem a0v{o:B}(h:a7s op=some o):o.cmp=some op:=by cases op<;>cases h<;>rfl
theorem b4U{op:Operator}{o:B}(h:b9R op=some o):o.bin=some op:=by cases op<;>cases h<;>rfl
theorem S8{b:Expr}(h:a1h b=true):behindInMarks op b=false:=by cases b<;>first|rfl|cases h
theorem a0M{e:Expr}{env:Env}(h:a1h e=true):∀x,foldedSetIterable e env x=pure x:=by intro x;cases e<;>first|rfl|cases h
theorem a2S{b:Expr}(h:a2u b=true):a2z b:=by intro o i;cases b<;>first|rfl|cases h
def a0H(Γ:Gm)(G:GT)(ct:CT)(c:CF)(n:Nat):Prop:=∀(X:Cx) (Ex:XK) (N:List Str) (sc:Scope) (dfn:Bool),Cxt X Γ G ct c Ex N sc dfn→
 (∀e x,cE G N sc n e=some x->PE X e (TEv Γ Ex (ev ct c x)))/\(∀es xs,cEs G N sc n es=some xs->PA X es (TAv Γ Ex (evs ct c xs))/\es.all l8=true)∧
 (∀e t,cT G N sc n e=some t->PT X e (TTv Γ Ex (tst ct c t))/\∀op l p,e=.BoolOp op l p->PW X e (TTv Γ Ex (tst ct c t)))/\(∀o x,cO G N sc n o=some x->PO X o (TOv Γ Ex (evo ct c x)))∧
 ∀tg e it,cI G N sc n tg e=some it->PI X tg e (TIv Γ Ex (evi ct c it))
theorem b2y:a0H Γ G ct c 0:=fun X Ex N sc dfn C=>
 ⟨fun e x h=>absurd (show none=some x from h) (by simp),fun e x h=>absurd (show none=some x from h) (by simp),fun e x h=>absurd (show none=some x from h) (by simp),fun e x h=>absurd (show none=some x from h) (by simp),fun tg e x h=>absurd (show none=some x from h) (by simp)⟩
theorem b2t(ih:a0H Γ G ct c n)(C:Cxt X Γ G ct c Ex N sc dfn):∀es xs,cEs G N sc (n+1) es=some xs->PA X es (TAv Γ Ex (evs ct c xs))/\es.all l8=true:=by
 intro es xs h;obtain⟨i1,i2,_⟩:=ih X Ex N sc dfn C
 replace h:sEs G (cR G n) N sc es=some xs:=h
 unfold sEs at h
 split at h
 · cases h;exact⟨c0h,rfl⟩
 · split at h
   · rename_i hp
     split at h
     · rename_i x xs' h1 h2;cases h;obtain⟨g1,g2⟩:=i2 _ xs' h2;exact⟨b7K (i1 _ x h1) g1 (d0 hp),by rw[all_cons,hp,g2];rfl⟩
     · cases h
   · cases h
theorem map_some{o:Option α}{f:α->β}{b:β}(h:o.map f=some b):∃a,o=some a/\f a=b:=Option.map_eq_some_iff.mp h
theorem b4Q(ih:a0H Γ G ct c n)(C:Cxt X Γ G ct c Ex N sc dfn):∀o x,cO G N sc (n+1) o=some x->PO X o (TOv Γ Ex (evo ct c x)):=by
 intro o x h;obtain⟨i1,i2,_⟩:=ih X Ex N sc dfn C
 replace h:sO G (cR G n) N sc o=some x:=h
 unfold sO at h
 split at h
 · cases h;exact c1r
 · obtain⟨y,h1,rfl⟩:=map_some h;exact c1q (i1 _ y h1)
theorem b3W{d:Expr}(h:b6K d=true):∃k q q2,d=.UnaryOp .USub (.Constant (.int 1) k q) q2:=by
 unfold b6K at h
 split at h
 · split at h
   · split at h
     · split at h
       · cases aw h
         exact⟨_,_,_,rfl⟩
       · cases h
     · cases h
   · cases h
 · cases h
theorem b4R(ih:a0H Γ G ct c n)(C:Cxt X Γ G ct c Ex N sc dfn):∀tg e it,cI G N sc (n+1) tg e=some it->PI X tg e (TIv Γ Ex (evi ct c it)):=by
 intro tg e it h;obtain⟨i1,i2,_⟩:=ih X Ex N sc dfn C
 have seq:∀{e:Expr} {it:I},(cE G N sc n e).map I.seq=some it->PI X tg e (TIv Γ Ex (evi ct c it)):=by
  intro e it h;obtain⟨x,h1,rfl⟩:=map_some h;exact c0c C (i1 _ _ h1)
 replace h:sI G (cR G n) N sc tg e=some it:=h
 unfold sI at h
 split at h
 · split at h
   · rename_i hc;rw[ae,ae] at hc;obtain⟨⟨hg,hb⟩,hx⟩:=hc;have hx:=aw hx;subst hx;have hm:=C.blt _ hb
     split at h
     · split at h
       · rename_i hp;obtain⟨x,h1,rfl⟩:=map_some h;exact b7C C hg hm hp (i1 _ _ h1)
       · cases h
     · split at h
       · rename_i hp;rw[ae,ae] at hp
         split at h
         · rename_i h1 h2;cases h;obtain⟨k,q,q2,rfl⟩:=b3W hp.1.1;exact b7B C hg hm hp.1.2 hp.2 (i1 _ _ h1) (i1 _ _ h2)
         · cases h
       · cases h
     · cases h
   · split at h
     · rename_i hc;rw[ae,ae] at hc;obtain⟨⟨hg,hb⟩,hx⟩:=hc;have hx:=aw hx;subst hx;have hm:=C.blt _ hb
       split at h
       · split at h
         · rename_i hp;obtain⟨x,h1,rfl⟩:=map_some h;exact b7G C hg hm hp (i1 _ _ h1)
         · cases h
       · cases h
     · split at h
       · rename_i hc;rw[ae,ae] at hc;obtain⟨⟨hg,hb⟩,hx⟩:=hc;have hx:=aw hx;subst hx;have hm:=C.blt _ hb
         split at h
         · split at h
           · rename_i hp;rw[ae] at hp
             split at h
             · rename_i h1 h2;cases h;exact b9Z C hg hm hp.1 hp.2 (i1 _ _ h1) (i1 _ _ h2)
             · cases h
           · cases h
         · cases h
       · exact seq h
 · rename_i x p
   split at h
   · rename_i ds hd
     split at hd
     · rename_i hg;cases h;exact c0m C hg hd
     · cases hd
   · exact seq h
 · exact seq h
theorem b9h{a b:Expr}{x:E}(ih:a0H Γ G ct c n)(C:Cxt X Γ G ct c Ex N sc dfn)(h1:cE G N sc n a=some x){k:E->α}{y:α}(h:(match b with
       | .Name y _=>if G8 sc y then(match op,G.tups.lookup y with
         |.In,some ds=>some (k (.gin false x ds))
         |.NotIn,some ds=>some (k (.gin true x ds))
         |.In,none=>(G.dicts.lookup y).map fun kvs=>k (.gdin false x kvs)
         |.NotIn,none=>(G.dicts.lookup y).map fun kvs=>k (.gdin true x kvs)
         |_,_=>none) else none
       |_=>none)=some y):∃g,y=k g/\PE X (.Compare a [op] [b] pos) (TEv Γ Ex (ev ct c g))/\PT X (.Compare a [op] [b] pos) (TTv Γ Ex (tst ct c (.val g))):=by
 obtain⟨i1,i2,_⟩:=ih X Ex N sc dfn C
 split at h
 · split at h
   · rename_i hg
     split at h
     · rename_i ds hd;cases h;exact⟨_,rfl,b5o C (.inl ⟨rfl,rfl⟩) hg hd (i1 _ _ h1)⟩
     · rename_i ds hd;cases h;exact⟨_,rfl,b5o C (.inr ⟨rfl,rfl⟩) hg hd (i1 _ _ h1)⟩
     · obtain⟨kvs,hd,rfl⟩:=map_some h;exact⟨_,rfl,b2B C (.inl ⟨rfl,rfl⟩) hg hd (i1 _ _ h1)⟩
     · obtain⟨kvs,hd,rfl⟩:=map_some h;exact⟨_,rfl,b2B C (.inr ⟨rfl,rfl⟩) hg hd (i1 _ _ h1)⟩
     · cases h
   · cases h
 · cases h
theorem a8g{b:Expr}(h:b6J b=true):∃p q,b=.Constant .none p q:=by
 cases b<;>first|(cases h;done)|skip
 rename_i k p q
 cases k<;>first|(cases h;done)|exact⟨_,_,rfl⟩
theorem b0U(h:a6U op=some true):op=.Is:=by cases op<;>first|rfl|(cases h;done)
theorem b0V(h:(a6U op).isSome=true)(h':a6U op=some true->False):op=.IsNot:=by cases op<;>first|rfl|(cases h;done)|exact(h' rfl).elim
theorem b3b{b:Expr}{lo hi:Option Expr}(h:b8k b=some (lo,hi)):∃p,b=.Slice lo hi none p:=by
 cases b<;>first|(cases h;done)|skip
 rename_i a c st p
 cases st<;>first|(cases h;done)|(cases h;exact⟨_,rfl⟩)
theorem b4P (ih:a0H Γ G ct c n) (C:Cxt X Γ G ct c Ex N sc dfn):∀e t,cT G N sc (n+1) e=some t->PT X e (TTv Γ Ex (tst ct c t))/\∀op l p,e=.BoolOp op l p->PW X e (TTv Γ Ex (tst ct c t)):=by
 intro e t h;obtain⟨i1,i2,i3,_⟩:=ih X Ex N sc dfn C
 replace h:sT G (cR G n) N sc e=some t:=h
 have dflt:∀{e:Expr},sTd G (cR G n) N sc e=some t->PT X e (TTv Γ Ex (tst ct c t))/\∀op l p,e=.BoolOp op l p->PW X e (TTv Γ Ex (tst ct c t)):=by
  intro e h;unfold sTd at h
  split at h
  · rename_i hp;obtain⟨y,h1,rfl⟩:=map_some h;refine⟨c0a ?_ (i1 _ y h1),fun _ _ _ z=>?_⟩
    · intro whole
      cases e<;>first|rfl|(cases hp;done)
    · subst z;cases hp
  · cases h
 unfold sT at h
 split at h
 · split at h
   · obtain⟨y,h1,rfl⟩:=map_some h;exact⟨c0g (i3 _ y h1).1,fun _ _ _ z=>nomatch z⟩
   · exact dflt h
 · rename_i op l p
   split at h
   · exact dflt h
   · split at h
     · rename_i a _
       have g:PW X (.BoolOp op [a] p) (TTv Γ Ex (tst ct c t)):=by
        cases op
        · exact b3k (i3 _ t h).1
        · exact b5L (i3 _ t h).1
       exact⟨g.pt,fun _ _ _ _=>g⟩
     · split at h
       · split at h
         · rename_i h1 h2;cases h;have g:=c0s (i3 _ _ h1).1 ((i3 _ _ h2).2 _ _ _ rfl);exact⟨g.pt,fun _ _ _ _=>g⟩
         · cases h
       · split at h
         · rename_i h1 h2;cases h;have g:=c0f (i3 _ _ h1).1 ((i3 _ _ h2).2 _ _ _ rfl);exact⟨g.pt,fun _ _ _ _=>g⟩
         · cases h
 · split at h
   · cases h
   · split at h
     · cases h
     · split at h
       · split at h
         · unfold b8n at h
           split at h
           · rename_i hc;rw[ae] at hc;obtain⟨p,q,rfl⟩:=a8g hc.1
             split at h
             · rename_i ho
               cases b0U ho
               obtain⟨y,h1,rfl⟩:=map_some h;exact⟨b7E (i1 _ y h1),fun _ _ _ z=>nomatch z⟩
             · rename_i ho
               cases b0V hc.2 ho
               obtain⟨y,h1,rfl⟩:=map_some h;exact⟨b4Y (i1 _ y h1),fun _ _ _ z=>nomatch z⟩
           · split at h
             · rename_i hs
               split at h
               · rename_i h0 h1 h2;cases h;exact⟨b7M C.hu C.K (a0v h0) (i1 _ _ h1) (i1 _ _ h2) (S8 hs),fun _ _ _ z=>nomatch z⟩
               · rename_i h0 h1 h2;obtain⟨gg,rfl,_,g⟩:=b9h (k:=T.val) ih C h1 h;exact⟨g,fun _ _ _ z=>nomatch z⟩
               · cases h
             · cases h
         · cases h
       · split at h
         · cases h
         · split at h
           · rename_i ht;rw[ae] at ht;obtain⟨t1,t2⟩:=ht
             cases isEmpty_iff.mp t1
             cases isEmpty_iff.mp t2
             unfold b8m at h
             split at h
             · rename_i hs
               split at h
               · rename_i h0 h0' h1 h2 h3;cases h;exact⟨b7N C.hu C.K (a0v h0) (a0v h0') (i1 _ _ h1) (i1 _ _ h2) (i1 _ _ h3) (S8 hs),fun _ _ _ z=>nomatch z⟩
               · cases h
             · cases h
           · cases h
 · exact dflt h
end
variable{x:Str}{as:List Expr}
section
theorem a4p{l:List Expr}{a b:Expr}(h:a9K l=some (a,b)):l=[a,b]:=by
 unfold a9K at h
 split at h
 · cases h
 · split at h
   · cases h
   · split at h
     · rename_i e
       cases isEmpty_iff.mp e
       cases h;rfl
     · cases h
theorem a4I{l:List Expr}{a:Expr}(h:b0W l=some a):l=[a]:=by
 unfold b0W at h
 split at h
 · cases h
 · split at h
   · rename_i e
     cases isEmpty_iff.mp e
     cases h;rfl
   · cases h
theorem a4M{e:Expr}(h:b0Y e=some x):∃p,e=.Name x p:=by
 unfold b0Y at h
 split at h
 · cases h;exact⟨_,rfl⟩
 · cases h
theorem b0l{a b:Expr}(h:b0m as=some (a,b)):∃p q,as=[.Call (.Name "range" p) [a,b] [] q]:=by
 unfold b0m at h
 split at h
 · rename_i h1
   cases a4I h1
   split at h
   · split at h
     · rename_i hc;rw[ae] at hc
       cases isEmpty_iff.mp hc.1
       obtain⟨p,rfl⟩:=a4M (aw hc.2)
       cases a4p h
       exact⟨_,_,rfl⟩
     · cases h
   · cases h
 · cases h
theorem b0s{a:Expr}(h:b0t as=some a):∃p q,as=[.Call (.Name "reversed" p) [a] [] q]:=by
 unfold b0t at h
 split at h
 · rename_i h1
   cases a4I h1
   split at h
   · split at h
     · rename_i hc;rw[ae] at hc
       cases isEmpty_iff.mp hc.1
       obtain⟨p,rfl⟩:=a4M (aw hc.2)
       cases a4I h
       exact⟨_,_,rfl⟩
     · cases h
   · cases h
 · cases h
structure CB(X:Cx)(Γ:Gm)(ct:CT)(c:CF)(elt tg iter:Expr)(ifs:List Expr)(scope:Scope)(js:List Nat)(p:Pat)(t:T)(y:E):Prop where
 j2:CompScope X.env.scope scope (o3 8 tg) (C8 scope)
 j3:(C8 scope).map some=js.map (X.N[·]?)
 j4:∀D s₀ H₀ ex,PG (o6 X (o3 8 tg) (C8 scope) scope D s₀ H₀ ex) tg (TGv Γ p)
 j5:∀D s₀ H₀ ex,a6E (o6 X (o3 8 tg) (C8 scope) scope D s₀ H₀ ex) ifs (TTv Γ E0 (tst ct c t))
 j6:∀D s₀ H₀ ex,PE (o6 X (o3 8 tg) (C8 scope) scope D s₀ H₀ ex) elt (TEv Γ E0 (ev ct c y))
 j7:∀v,foldedSetIterable iter X.env v=pure v
 j8:(E7 p).all (fun i=>decide (i<(o3 8 tg).length))=true
theorem a9y{q:List Nat×Pat×T×E}(ih:a0H Γ G ct c n)(C:Cxt X Γ G ct c Ex N sc dfn)(h:b5D (cR G n) N sc elt tg iter ifs scope=some q):CB X Γ ct c elt tg iter ifs scope q.1 q.2.1 q.2.2.1 q.2.2.2:=by
 unfold b5D at h
 split at h
 · rename_i js hjs
   split at h
   · rename_i hc;rw[ae] at hc
     have S0:CompScope sc scope (o3 8 tg) (C8 scope):=b9J hc.1
     have S:CompScope X.env.scope scope (o3 8 tg) (C8 scope):=by rw[C.sc];exact S0
     have hj:(C8 scope).map some=js.map (X.N[·]?):=by rw[C.hN];exact a8j hjs
     split at h
     · rename_i p y hp hy
       split at h
       · rename_i hall
         have pg:∀D s₀ H₀ ex,PG (o6 X (o3 8 tg) (C8 scope) scope D s₀ H₀ ex) tg (TGv Γ p):=fun D s₀ H₀ ex=>((b5m (C.comp S0 D s₀ H₀ ex) 8).1 tg p hp).1
         have pe:∀D s₀ H₀ ex,PE (o6 X (o3 8 tg) (C8 scope) scope D s₀ H₀ ex) elt (TEv Γ E0 (ev ct c y)):=fun D s₀ H₀ ex=>(ih _ _ _ _ _ (C.comp S0 D s₀ H₀ ex)).1 elt y hy
         split at h
         · cases h;refine⟨S,hj,pg,fun D s₀ H₀ ex=>?_,pe,a0M hc.2,hall⟩
           intro pins s σ H Q I q;refine b5X pins s σ H Q I ?_
           obtain⟨env,ah,m,rl,q⟩:=q;rw[tst] at q;exact q.ok rl.sim
         · obtain⟨z,h1,rfl⟩:=map_some h;exact⟨S,hj,pg,fun D s₀ H₀ ex=>b3s ((ih _ _ _ _ _ (C.comp S0 D s₀ H₀ ex)).2.2.1 _ z h1).1,pe,a0M hc.2,hall⟩
         · cases h
       · cases h
     · cases h
   · cases h
 · cases h
theorem b1r{o:Expr}(h:a4W tg iter=some o):∃es k tp ap cp,tg=.Tuple es k tp/\iter=.Call (.Attribute o "items" ap) [] [] cp/\V8 o=true/\(ap.endLine==cp.line)=true:=by
 unfold a4W at h
 split at h
 · split at h
   · split at h
     · rename_i hc;rw[ae,ae,ae,ae] at hc
       cases isEmpty_iff.mp hc.1.2
       cases isEmpty_iff.mp hc.2
       split at h
       · cases h
         have:=aw hc.1.1.1.1
         subst this;exact⟨_,_,_,_,_,rfl,rfl,hc.1.1.1.2,hc.1.1.2⟩
       · cases h
     · cases h
   · cases h
 · cases h
theorem a1Z{x:E}(ih:a0H Γ G ct c n)(C:Cxt X Γ G ct c Ex N sc dfn)(h:sLc G (cR G n) N sc elt tg iter ifs scope=some x):
 ∃js p t y,CB X Γ ct c elt tg iter ifs scope js p t y/\((∃it,x=.comp p it (o3 8 tg).length js t y/\PI X tg iter (TIv Γ Ex (evi ct c it)))∨∃z,x=.compI p z (o3 8 tg).length js t y/\PI X tg iter (a7j X.H₀ (TEv Γ Ex (ev ct c z)))):=by
 obtain⟨i1,i2,i3,i4,i5⟩:=ih X Ex N sc dfn C;unfold sLc at h
 split at h
 · rename_i q hq;refine⟨_,_,_,_,a9y ih C hq,?_⟩
   split at h
   · rename_i o ho;obtain⟨z,h1,rfl⟩:=map_some h;obtain⟨es,k,tp,ap,cp,rfl,rfl,hb,hl⟩:=b1r ho;exact .inr ⟨z,rfl,b0J (i1 _ z h1) (Y0 hb) hl⟩
   · obtain⟨it,h1,rfl⟩:=map_some h;exact .inl ⟨it,rfl,i5 _ _ _ h1⟩
 · cases h
theorem b4S (ih:a0H Γ G ct c n) (C:Cxt X Γ G ct c Ex N sc dfn):∀e x,cE G N sc (n+1) e=some x->PE X e (TEv Γ Ex (ev ct c x)):=by
 intro e x h;obtain⟨i1,i2,i3,i4,i5⟩:=ih X Ex N sc dfn C
 replace h:sE G (cR G n) N sc e=some x:=h
 unfold sE at h
 split at h
 · unfold b8q at h
   split at h
   · cases h;exact a_k (dd:=.int _) a6S (fun _ _=>rfl) c ct
   · cases h;exact a_k (dd:=.str _) b0L (fun _ _=>rfl) c ct
   · cases h;exact a_k (dd:=.bl _) b8D (fun _ _=>rfl) c ct
   · cases h;exact a_k (dd:=.non) b6h (fun _ _=>rfl) c ct
   · cases h
 · -- Name
   split at h
   · rename_i i hs;cases h;unfold slot at hs
     split at hs
     · rename_i hv;rw[ae,ae] at hv;exact a_v (by rw[C.hN];exact a4Z hs) (C.vis hv.1.1) (beq_eq_false_iff_ne.mpr (aw hv.1.2)) (beq_eq_false_iff_ne.mpr (aw hv.2)) c ct
     · cases hs
   · split at h
     · rename_i hg;obtain⟨d,h1,rfl⟩:=map_some h;obtain⟨u,v,s1,s2,s3⟩:=C.scal _ d h1;exact a_k (a1f (C.gl hg) s1 s2 (W7 hg).2.1) s3 c ct
     · cases h
 · split at h
   · rename_i h0 h1 h2;cases h;exact c0q (b4U h0) (i1 _ _ h1) (i1 _ _ h2)
   · cases h
 · unfold sUn at h
   split at h
   · obtain⟨y,h1,rfl⟩:=map_some h;exact b5n (i1 _ y h1)
   · obtain⟨y,h1,rfl⟩:=map_some h;exact c1s (i1 _ y h1)
   · cases h
 · unfold sBo at h
   split at h
   · cases h
   · split at h
     · exact b6f (i1 _ x h)
     · split at h
       · split at h
         · rename_i h1 h2;cases h;exact c1x (i1 _ _ h1) (i1 _ _ h2)
         · cases h
       · split at h
         · rename_i h1 h2;cases h;exact c0e (i1 _ _ h1) (i1 _ _ h2)
         · cases h
 · split at h
   · cases h
   · split at h
     · cases h
     · split at h
       · split at h
         · unfold b8s at h
           split at h
           · rename_i hc;rw[ae] at hc;obtain⟨p,q,rfl⟩:=a8g hc.1
             split at h
             · rename_i ho
               cases b0U ho
               obtain⟨y,h1,rfl⟩:=map_some h;exact c0k (i1 _ y h1)
             · rename_i ho
               cases b0V hc.2 ho
               obtain⟨y,h1,rfl⟩:=map_some h;exact b7D (i1 _ y h1)
           · split at h
             · rename_i hs
               split at h
               · rename_i h0 h1 h2;cases h;exact c0o C.hu C.K (a0v h0) (i1 _ _ h1) (i1 _ _ h2) (S8 hs)
               · rename_i h0 h1 h2;obtain⟨gg,rfl,g,_⟩:=b9h (k:=fun g=>g) ih C h1 h
                 exact g
               · cases h
             · cases h
         · cases h
       · split at h
         · cases h
         · split at h
           · rename_i ht;rw[ae] at ht;obtain⟨t1,t2⟩:=ht
             cases isEmpty_iff.mp t1
             cases isEmpty_iff.mp t2
             unfold b8r at h
             split at h
             · rename_i hs
               split at h
               · rename_i h0 h0' h1 h2 h3;cases h;exact c0p C.hu C.K (a0v h0) (a0v h0') (i1 _ _ h1) (i1 _ _ h2) (i1 _ _ h3) (S8 hs)
               · cases h
             · cases h
           · cases h
 · rename_i z1 z2 z3 z4 z5 z6
   clear z1 z2 z3 z4 z5 z6
   unfold sE2 at h
   split at h
   · unfold sSl at h
     split at h
     · rename_i hs0;obtain⟨q,rfl⟩:=b3b hs0
       split at h
       · rename_i h1 h2 h3;cases h;exact c1p C.K (i1 _ _ h1) (i4 _ _ h2) (i4 _ _ h3)
       · cases h
     · split at h
       · rename_i hs
         split at h
         · rename_i h1 h2;cases h;exact c1v C.hu C.K (i1 _ _ h1) (i1 _ _ h2) (a2S hs)
         · rename_i h1 h2
           split at h
           · split at h
             · rename_i hg;obtain⟨kvs,hd,rfl⟩:=map_some h;exact b7F C hg hd (i1 _ _ h2) (a2S hs)
             · cases h
           · cases h
         · cases h
       · cases h
   · split at h
     · rename_i h1 h2 h3;cases h;exact c0l (i3 _ _ h1).1 (i1 _ _ h2) (i1 _ _ h3)
     · cases h
   · split at h
     · rename_i hb;rw[ae] at hb;obtain⟨y,h1,rfl⟩:=map_some h;exact c0n C hb.1 hb.2 (i1 _ y h1)
     · cases h
   · obtain⟨y,h1,rfl⟩:=map_some h;exact c0i (i2 _ y h1).1
   · obtain⟨y,h1,rfl⟩:=map_some h;exact c0b (i2 _ y h1).1
   · split at h
     · split at h
       · cases h;exact b7H
       · cases h
     · obtain⟨kvs,h1,h⟩:=Option.bind_eq_some_iff.mp h
       split at h
       · rename_i hk;cases h;exact b7I (cons_ne_nil _ _) h1 hk
       · cases h
   · rename_i f as ks cpos
     split at h
     · rename_i hk0
       cases isEmpty_iff.mp hk0
       split at h
       · rename_i nm np0;unfold sCn at h
         split at h
         · rename_i hg
           split at h
           · rename_i f np hf
             split at h
             · rename_i hl;obtain⟨y,h1,rfl⟩:=map_some h;obtain⟨g1,g2⟩:=i2 _ y h1;rw[ae] at hl;have hne:=aw hl.2
               cases as with
               |nil=>exact absurd rfl hne
               |cons a r=>exact b7O C hf hg g2 g1
             · cases h
           · split at h
             · rename_i k hk
               split at h
               · rename_i he;cases h;subst he;exact c1u C hk hg
               · cases h
             · split at h
               · rename_i hb;have hm:=C.blt _ hb
                 split at h
                 · rename_i hx;subst hx
                   split at h
                   · rename_i h2
                     cases a4p h2
                     split at h
                     · rename_i hp
                       split at h
                       · rename_i hq;rw[ae,ae] at hq;obtain⟨⟨q2,q3⟩,q4⟩:=hq;obtain⟨pp,rfl⟩:=a4M (aw q2);obtain⟨y,h1,rfl⟩:=map_some h;exact c0j C hg hm q3 (C.blt _ q4) hp (i1 _ y h1)
                       · cases h
                     · cases h
                   · cases h
                 · split at h
                   · rename_i hq
                     split at hq
                     · rename_i hc;rw[ae,ae] at hc;obtain⟨⟨c1,c2⟩,c3⟩:=hc
                       cases aw c1
                       obtain⟨pp,qq,rfl⟩:=b0l hq
                       split at h
                       · rename_i hp;rw[ae] at hp
                         split at h
                         · rename_i h3 h4;cases h;exact b7A C hg hm c2 (C.blt _ c3) hp.1 hp.2 (i1 _ _ h3) (i1 _ _ h4)
                         · cases h
                       · cases h
                     · cases hq
                   · split at h
                     · rename_i hq
                       split at hq
                       · rename_i hc;rw[ae,ae] at hc;obtain⟨⟨c1,c2⟩,c3⟩:=hc
                         cases aw c1
                         obtain⟨pp,qq,rfl⟩:=b0s hq
                         split at h
                         · rename_i hp;obtain⟨y,h1,rfl⟩:=map_some h;exact c0d C hg hm c2 (C.blt _ c3) hp (i1 _ y h1)
                         · cases h
                       · cases hq
                     · split at h
                       · rename_i b hbi
                         split at h
                         · rename_i hne;obtain⟨y,h1,rfl⟩:=map_some h;obtain⟨g1,g2⟩:=i2 _ y h1
                           cases as with
                           |nil=>exact absurd rfl hne
                           |cons a r=>exact c1w C hbi hg hm g2 g1
                         · cases h
                       · cases h
               · cases h
         · cases h
       · rename_i o mm apos;unfold sCa at h
         split at h
         · rename_i hc;rw[ae,ae] at hc;obtain⟨⟨c1,c2⟩,c3⟩:=hc
           cases aw c3
           unfold b8p at h
           split at h
           · rename_i h2
             cases a4p h2
             split at h
             · rename_i hp;rw[ae] at hp
               split at h
               · rename_i h3 h4 h5;cases h;exact b7J C c1 c2 hp.1 hp.2 (i1 _ _ h3) (i1 _ _ h4) (i1 _ _ h5)
               · cases h
             · cases h
           · cases h
         split at h
         · rename_i hc;rw[ae,ae,ae] at hc;obtain⟨⟨⟨c1,c2⟩,c3⟩,c4⟩:=hc;have c3:=aw c3;have c4:=aw c4
           split at h
           · rename_i h0 h1 h2;cases h;obtain⟨g1,g2⟩:=i2 _ _ h2
             cases as with
             |nil=>exact absurd rfl c4
             |cons a r=>exact c1t C h0 c1 c2 c3 g2 (i1 _ _ h1) g1
           · cases h
         · cases h
       · cases h
     · cases h
   · split at h
     · cases h
     · rename_i g t
       split at h
       · rename_i hg0;rw[ae] at hg0;obtain⟨tg,iter,ifs,a⟩:=g
         cases isEmpty_iff.mp hg0.1
         have ha:a=0:=aw hg0.2
         subst ha;obtain⟨js,p,t,y,B,⟨it,rfl,j1⟩|⟨z,rfl,j1⟩⟩:=a1Z ih C h
         · exact b7L C j1 B.j2 B.j3 B.j4 B.j5 B.j6 B.j7 B.j8
         · exact PE.imp (b3z (a2M C.calm j1 B.j2 B.j3 B.j4 B.j5 B.j6 B.j7)) (a4f B.j8)
       · cases h
   · cases h
theorem a0Y:∀n,a0H Γ G ct c n
 |0=>b2y
 |n+1=>fun X Ex N sc dfn C=>⟨b4S (a0Y n) C,b2t (a0Y n) C,b4P (a0Y n) C,b4Q (a0Y n) C,b4R (a0Y n) C⟩
end
def SQ(D:Ends):Out->AH->List Addr->Hp->Prop:=fun o _ m1 H1=>match o with
 |.nx env'=>∀σ',EnvRel m1 H1 env' σ'->D.nx σ' H1
 |.rt d=>∀v,Rp m1 H1 d v->D.rt v H1
noncomputable def TSv(Γ:Gm)(E:XK)(f:n5->AH->R Out):TS:=fun D σ H=>∃env ah m,Rel Γ env ah σ H m/\f8 Γ E m H (f env ah) (SQ D)
variable{st:Stmt}
section
variable{e a b:Expr}{p':Pos}{x y z:E}{i:Nat}
theorem a2m{e:Expr}{t:Option Expr}{l:Nat}{env:Env}(h:U0 e=true):swapsWith e t l env=pure false:=by cases e<;>first|rfl|cases h
theorem b9U{n:Str}(C:Cxt X Γ G ct c Ex N sc true)(hs:a2H true N sc n=some i)(hw:U0 e=true)(he:PE X e (TEv Γ Ex (ev ct c x))):PS X (.Assign [.Name n p'] e pos) (TSv Γ Ex (ex ct c (.set i x))):=by
 obtain⟨h1,h2,h3⟩:=a2G C hs;refine PS.imp (b0D (by rw[C.hN];exact C.nd) h1 h2 he (a2m hw) h3) ?_
 rintro D σ H ⟨env,ah,m,rl,q⟩;rw[ex] at q;refine⟨env,ah,m,rl,f8.first rl q fun d1 ah1 m1 H1 v1 p1 k1 rl1 r1 q1=>?_⟩
 exact q1.ok rl1.sim _ (rl1.env.set r1)
theorem b7w{n:Str}{k:Nat}{cpos:Pos}(C:Cxt X Γ G ct c Ex N sc true)(hs:a2H true N sc n=some i)(h:cE G N sc (k+1) (.ListComp elt [⟨tg,iter,ifs,0⟩] scope cpos)=some x):PS X (.Assign [.Name n p'] (.ListComp elt [⟨tg,iter,ifs,0⟩] scope cpos) pos) (TSv Γ Ex (ex ct c (.set i x))):=by
 obtain⟨h1,h2,h3⟩:=a2G C hs;obtain⟨js,p,t,y,B,⟨it,rfl,j1⟩|⟨z,rfl,j1⟩⟩:=a1Z (a0Y k) C (show sLc G (cR G k) N sc elt tg iter ifs scope=some x from h)
 · refine PS.imp (a7P C.calm j1 B.j2 B.j3 B.j4 B.j5 B.j6 B.j7 (by rw[C.hN];exact C.nd) h1 h2 h3) ?_
   rintro D σ H ⟨env,ah,m,rl,q⟩;rw[ex] at q;refine a6w B.j8 σ H _ ⟨env,ah,m,rl,f8.first rl q fun d1 ah1 m1 H1 v1 p1 k1 rl1 r1 q1=>?_⟩
   exact q1.ok rl1.sim _ (rl1.env.set r1)
 · refine PS.imp (b3n (a7P C.calm j1 B.j2 B.j3 B.j4 B.j5 B.j6 B.j7 (by rw[C.hN];exact C.nd) h1 h2 h3)) ?_
   rintro D σ H ⟨env,ah,m,rl,q⟩;rw[ex] at q;refine a4f B.j8 σ H (fun v H'=>D.nx (σ.set i (some v)) H') ⟨env,ah,m,rl,f8.first rl q fun d1 ah1 m1 H1 v1 p1 k1 rl1 r1 q1=>?_⟩
   exact q1.ok rl1.sim _ (rl1.env.set r1)
theorem c1n(hw:U0 e=true)(he:PE X e (TEv Γ Ex (ev ct c x))):PS X (.Expr e pos) (TSv Γ Ex (ex ct c (.ex x))):=by
 refine PS.imp (b3o he (a2m hw)) ?_
 rintro D σ H ⟨env,ah,m,rl,q⟩;rw[ex] at q;refine⟨env,ah,m,rl,f8.first rl q fun d1 ah1 m1 H1 v1 p1 k1 rl1 r1 q1=>?_⟩
 exact q1.ok rl1.sim _ rl1.env
theorem b9V(he:PE X e (TEv Γ Ex (ev ct c x))):PS X (.Return (some e) pos) (TSv Γ Ex (ex ct c (.ret x))):=by
 refine PS.imp (b5R he) ?_
 rintro D σ H ⟨env,ah,m,rl,q⟩;rw[ex] at q;refine⟨env,ah,m,rl,f8.first rl q fun d1 ah1 m1 H1 v1 p1 k1 rl1 r1 q1=>?_⟩
 exact q1.ok rl1.sim _ r1
theorem b5k:PS X st (TSv Γ Ex (ex ct c .bad)):=by
 rintro pins s σ H D I ⟨env,ah,m,rl,q⟩;rw[ex] at q;exact q.elim
variable{t:T}{as bs:List Stmt}{sa sb:Ss}
theorem b9W:PSs X [] (TSv Γ Ex (exs ct c .nil)):=by
 refine PSs.imp b3m ?_
 rintro D σ H ⟨env,ah,m,rl,q⟩;rw[exs] at q;exact q.ok rl.sim σ rl.env
theorem b7y{s:S}(h1:PS X st (TSv Γ Ex (ex ct c s)))(h2:PSs X as (TSv Γ Ex (exs ct c sa))):PSs X (st::as) (TSv Γ Ex (exs ct c (.cons s sa))):=by
 refine PSs.imp (b0C h1 h2) ?_
 rintro D σ H ⟨env,ah,m,rl,q⟩;rw[exs] at q;refine⟨env,ah,m,rl,q.bind.mp fun o ah1 m1 H1 p1 k1 s1 q1=>?_⟩
 cases o with
 |nx env'=>exact fun σ' er=>⟨env',ah1,m1,⟨s1,er⟩,q1⟩
 |rt d=>exact q1.ok s1
theorem c1m{tt:Expr}(hc:PT X tt (TTv Γ Ex (tst ct c t)))(ha:PSs X as (TSv Γ Ex (exs ct c sa)))(hb:PSs X bs (TSv Γ Ex (exs ct c sb))):PS X (.If tt as bs pos) (TSv Γ Ex (ex ct c (.iff t sa sb))):=by
 refine PS.imp (b8z hc ha hb) ?_
 rintro D σ H ⟨env,ah,m,rl,q⟩;rw[ex] at q;refine⟨env,ah,m,rl,q.bind.mp fun k ah1 m1 H1 p1 k1 s1 q1=>?_⟩
 cases k with
 |true=>exact b8R ⟨env,ah1,m1,rl.on p1 k1 s1,q1⟩
 |false=>exact b8S ⟨env,ah1,m1,rl.on p1 k1 s1,q1⟩
theorem b9X{it:Expr}{ii:I}(C:Cxt X Γ G ct c Ex N sc true)(own:PassesOwn (model X.prog X.w) X.A X.env X.xe)(hi:PI X tg it (TIv Γ Ex (evi ct c ii)))(hg:PG X tg (TGv Γ p))(hb:PSs X bs (TSv Γ Ex (exs ct c sb)))(hs:a1h it=true):
 PS X (.For tg it bs [] pos) (TSv Γ Ex (ex ct c (.for p ii sb))):=by
 refine PS.imp (b5S own C.calm hi hg hb (a0M hs)) ?_
 rintro D σ H ⟨env,ah,m,rl,q⟩;rw[ex] at q;refine⟨env,ah,m,rl,q.bind.mp fun x ah1 m1 H1 p1 k1 s1 q1=>fun _ J hJ=>?_⟩
 refine⟨fun i mm σ H2=>mm=x.1.length-i/\i<=x.1.length/\∃env ah2 m2,Rel Γ env ah2 σ H2 m2/\Pre m1 m2/\Keep m1 m2 H1 H2/\f8 Γ Ex m2 H2 (V0 x.2 p (exs ct c sb) (x.1.drop i) env ah2) (SQ D),?_,?_⟩
 · exact⟨_,rfl,Nat.zero_le _,env,ah1,m1,rl.on p1 k1 s1,Pre.refl _,Keep.refl _ _,q1⟩
 · rintro i mm σ H2 ⟨hmm,hil,env,ah2,m2,rl2,p2,k2,q2⟩
   by_cases hend:i=x.1.length
   · refine .inl ?_
     rw[hend,drop_length] at q2;unfold V0 at q2
     split at q2
     · rename_i hgk;exact⟨(hJ i ah2 m2 H2 p2 k2 rl2.sim hgk).1 hend,q2.ok rl2.sim σ rl2.env⟩
     · exact q2.elim
   · refine .inr ?_
     have hlt:i<x.1.length:=Nat.lt_of_le_of_ne hil hend
     have hdi:x.1[i]? =some x.1[i]:=af hlt
     rw[List.drop_eq_getElem_cons hlt] at q2;generalize x.1[i]=dd at q2 hdi;unfold V0 at q2
     split at q2
     · rename_i hgk;obtain⟨go,yl⟩:=(hJ i ah2 m2 H2 p2 k2 rl2.sim hgk).2 dd hdi;refine⟨go,fun σ' H'=>∃m',m'<mm/\(m'=x.1.length-(i+1)/\i+1<=x.1.length/\∃env ah2 m2,Rel Γ env ah2 σ' H' m2/\Pre m1 m2/\Keep m1 m2 H1 H'/\f8 Γ Ex m2 H' (V0 x.2 p (exs ct c sb) (x.1.drop (i+1)) env ah2) (SQ D)),fun σ' H' h=>h,fun v H3 hy=>?_⟩
       obtain⟨k3,s3,r3⟩:=yl v H3 hy
       split at q2
       · exact q2.elim
       · rename_i envb hb;refine⟨env,dd,m2,envb,rl2.env.mono (Pre.refl m2) k3,r3,hb,fun σ4 er4 l4 s4=>⟨envb,ah2,m2,⟨s3,er4⟩,?_⟩⟩
         refine(q2.later (Pre.refl m2) k3).bind.mp fun o ah5 m5 H5 p5 k5 s5 q5=>?_
         cases o with
         |nx env'=>exact fun σ' er'=>⟨_,by omega,rfl,hlt,env',ah5,m5,⟨s5,er'⟩,p2.trans p5,k2.trans (k3.trans k5),q5⟩
         |rt d=>exact q5.ok s5
     · exact q2.elim
theorem b9S{o k:Expr}(C:Cxt X Γ G ct c Ex N sc true)(ho:PE X o (TEv Γ Ex (ev ct c x)))(hk:PE X k (TEv Γ Ex (ev ct c y)))(hv:PE X e (TEv Γ Ex (ev ct c z)))(hw:U0 e=true)(hns:a2u k=true):PS X (.Assign [.Subscript o k p'] e pos) (TSv Γ Ex (ex ct c (.six x y z))):=by
 have hg:PG X (.Subscript o k p') (b9j (TEv Γ Ex (ev ct c x)) (TEv Γ Ex (ev ct c y)) _):=b6b ho hk (c0H (Γ:=Γ) (E:=Ex) C.hu) (by intro v;cases k<;>first|rfl|cases hns)
 refine PS.imp (b5U hv hg (show swapsWith e (some (.Subscript o k p')) pos.line X.env=pure false from a2m hw) (by cases e<;>rfl) rfl) ?_
 rintro D σ H ⟨env,ah,m,rl,q⟩;rw[ex] at q;refine⟨env,ah,m,rl,f8.first rl q fun d1 ah1 m1 H1 v1 p1 k1 rl1 r1 q1=>?_⟩
 refine⟨env,ah1,m1,rl1,f8.first rl1 q1 fun d2 ah2 m2 H2 v2 p2 k2 rl2 r2 q2=>?_⟩
 refine⟨env,ah2,m2,rl2,f8.first rl2 q2 fun d3 ah3 m3 H3 v3 p3 k3 rl3 r3 q3=>?_⟩
 refine⟨d2,d3,d1,ah3,m3,rl3.sim,r2.mono p3 k3,r3,r1.mono (p2.trans p3) (k2.trans k3),q3.bind.mp fun _ ah4 m4 H4 p4 k4 s4 q4=>?_⟩
 exact q4.ok s4 σ (rl3.env.mono p4 k4)
theorem b9T{o:Expr}{f:Str}(C:Cxt X Γ G ct c Ex N sc true)(ho:PE X o (TEv Γ Ex (ev ct c x)))(hv:PE X e (TEv Γ Ex (ev ct c z)))(hw:U0 e=true)(hf:G.atts.contains f=true):PS X (.Assign [.Attribute o f p'] e pos) (TSv Γ Ex (ex ct c (.sfl x f z))):=by
 refine PS.imp (b5T ho hv (a2m hw)) ?_
 rintro D σ H ⟨env,ah,m,rl,q⟩;rw[ex] at q;refine⟨env,ah,m,rl,f8.first rl q fun d1 ah1 m1 H1 v1 p1 k1 rl1 r1 q1=>?_⟩
 refine⟨env,ah1,m1,rl1,f8.first rl1 q1 fun d2 ah2 m2 H2 v2 p2 k2 rl2 r2 q2=>?_⟩
 unfold a4y at q2
 split at q2
 · split at q2
   · rename_i k fs e2
     split at q2
     · rename_i hl;obtain⟨ad,rfl,hm⟩:=r2;obtain⟨dx,gs,g1,g2,g3⟩:=rl2.sim.at hm e2;obtain⟨a1,a2⟩:=C.att k g3
       have kp:Keep m2 m2 H2 (upd H2 ad (.ins (Γ.cA k) dx (V7 f v1 gs))):=Keep.put hm g1 fun z=>z
       refine⟨ad,Γ.cA k,dx,gs,rfl,g1,a1,a2 f hf,by rw[←Paired.length g2];exact hl,?_⟩
       have s3:=rl2.sim.write (c:=.obj k (a3K f d1 fs)) hm g1 (fun z=>z) ⟨dx,_,b8,(Fl.put (r1.mono p2 k2) g2).mono (Pre.refl m2) kp.im,g3⟩
       exact f8.ok (f8.later q2 (Pre.refl m2) kp) s3 σ (rl2.env.mono (Pre.refl m2) kp)
     · exact q2.elim
   · exact q2.elim
 · exact q2.elim
end
structure Cxs(X:Cx)(Γ:Gm)(G:GT)(ct:CT)(c:CF)(Ex:XK)(N:List Str)(sc1:Scope):Prop extends Cxt X Γ G ct c Ex N sc1 true where
 own:PassesOwn (model X.prog X.w) X.A X.env X.xe
section
theorem b3T{k:Nat}{gens:List Comprehension}{y:E}(h:cE G N sc (k+1) (.ListComp elt gens scope pos)=some y):∃tg iter ifs,gens=[⟨tg,iter,ifs,0⟩]:=by
 cases gens with
 |nil=>exact absurd (show none=some y from h) (by simp)
 |cons g t=>
  replace h:(if t.isEmpty&&decide (g.is_async=0) then sLc G (cR G k) N sc elt g.target g.iter g.ifs scope else none)=some y:=h
  split at h
  · rename_i hg;rw[ae] at hg;obtain⟨tg,iter,ifs,a⟩:=g
    cases isEmpty_iff.mp hg.1
    have ha:a=0:=aw hg.2
    subst ha;exact⟨_,_,_,rfl⟩
  · cases h
theorem b8o (C:Cxs X Γ G ct c Ex N sc) {r:List Stmt->Option Ss} (hr:∀l ss,r l=some ss->PSs X l (TSv Γ Ex (exs ct c ss))):∀st s,sS G N sc r st=some s->PS X st (TSv Γ Ex (ex ct c s)):=by
 intro st s h;obtain⟨i1,i2,i3,i4,i5⟩:=a0Y 40 X Ex N sc true C.toCxt;unfold sS at h
 split at h
 · rename_i tgs e pe
   split at h
   · cases h
   · split at h
     · rename_i hu
       cases isEmpty_iff.mp hu
       unfold sAs at h
       split at h
       · rename_i x px
         split at h
         · rename_i i y h1 h2
           split at h
           · rename_i hw;cases h
             by_cases hn:U0 e=true
             · exact b9U C.toCxt h1 hn (i1 _ _ h2)
             · rw[Bool.or_eq_true] at hw
               have hl:b8T e=true:=hw.resolve_left hn
               cases e<;>first|(cases hl;done)|skip
               obtain⟨tg,iter,ifs,rfl⟩:=b3T h2;exact b7w C.toCxt h1 h2
           · cases h
         · cases h
       · split at h
         · rename_i h1 h2 h3
           split at h
           · rename_i hw;cases h;rw[ae] at hw;exact b9S C.toCxt (i1 _ _ h1) (i1 _ _ h2) (i1 _ _ h3) hw.1 hw.2
           · cases h
         · cases h
       · split at h
         · rename_i h1 h2
           split at h
           · rename_i hw;cases h;rw[ae] at hw;exact b9T C.toCxt (i1 _ _ h1) (i1 _ _ h2) hw.1 hw.2
           · cases h
         · cases h
       · cases h
     · cases h
 · split at h
   · rename_i hw;obtain⟨y,h1,rfl⟩:=map_some h;exact c1n hw (i1 _ _ h1)
   · cases h
 · split at h
   · obtain⟨y,h1,rfl⟩:=map_some h;exact b9V (i1 _ _ h1)
   · cases h
 · split at h
   · rename_i h1 h2 h3;cases h;exact c1m (i3 _ _ h1).1 (hr _ _ h2) (hr _ _ h3)
   · cases h
 · split at h
   · rename_i hel
     cases isEmpty_iff.mp hel
     split at h
     · rename_i h1 h2 h3
       split at h
       · rename_i hs;cases h;exact b9X C.toCxt C.own (i5 _ _ _ h2) ((b5m C.toCxt 8).1 _ _ h1).1 (hr _ _ h3) hs
       · cases h
     · cases h
   · cases h
 · cases h;exact b5k
 · cases h
theorem b0g(C:Cxs X Γ G ct c Ex N sc){r:List Stmt->Option Ss}(hr:∀l ss,r l=some ss->PSs X l (TSv Γ Ex (exs ct c ss))):∀l ss,sSs G N sc r l=some ss->PSs X l (TSv Γ Ex (exs ct c ss))
 |[],ss,h=>by unfold sSs at h;cases h;exact b9W
 |st::l,ss,h=>by
  unfold sSs at h;obtain⟨y,h2,rfl⟩:=map_some h;refine b7y ?_ (b0g C hr l _ h2)
  cases h1:sS G N sc r st with
  |none=>exact b5k
  |some x=>exact b8o C hr _ _ h1
theorem b2s(C:Cxs X Γ G ct c Ex N sc):∀n l ss,cSs G N sc n l=some ss->PSs X l (TSv Γ Ex (exs ct c ss))
 |0,l,ss,h=>absurd (show none=some ss from h) (by simp)
 |n+1,l,ss,h=>b0g C (b2s C n) l ss h
end
structure RowOk(K:PySem.W.Frag)(G:GT)(F:Nat->Option Fn)(x qual:Str)(id np0:Nat)(f:Addr)(fd:FuncData)(st:Stmt)(N ps:List Str):Prop where
 fn:Fun K x qual st f fd
 sc:FnScope N ps (o8 st)
 bd:T7 K fd ps []
 np:ps.length=np0
 F:∃fn,F id=some fn/\fn.np=np0/\fn.ns=N.length/\cSs G N (o8 st) 20 (M0 st)=some fn.body
structure Stat(P:Program)(w:World)(Γ:Gm)(G:GT)(ct:CT)(F:Nat->Option Fn)(mg:Str->Option Value):Prop where
 scal:∀x d,G.scal.lookup x=some d->∃u v,mg x=some u/\f6 v u/\∀m H,Rp m H d v
 tups:∀x ds,G.tups.lookup x=some ds->∃a vs,mg x= ~~~a/\(∀H,SqT Γ.K H a vs)/\∀m H,Rps m H ds vs
 dicts:∀x kvs,G.dicts.lookup x=some kvs->∃a gs,mg x= ~~~a/\a9F P w Γ.K a gs/\∀m H,DK m H kvs gs
 blt:∀x,G.blt.contains x=true->mg x=none
 fn:∀x id np,G.fn.lookup x=some (id,np)->∃f fd st N ps,mg x= ~~~f/\RowOk Γ.K G F x x id np f fd st N ps
 obj:∀x k,G.obj.lookup x=some k->k∈Γ.ob/\mg x=some (.ref (Γ.cA k))/\∃f fd st N ps qual,Mk Γ.K (Γ.cA k) f/\RowOk Γ.K G F "__init__" qual (ct.init k) 1 f fd st N ps
 att:∀k,k∈Γ.ob->Cls Γ.K (Γ.cA k)/\∀f,G.atts.contains f=true->a0i Γ.K (Γ.cA k) f
variable{np:Nat}{id:Nat}
section
variable{P:Program}{w:World}{F:Nat->Option Fn}{mg:Str->Option Value}
theorem a9v{ns:Nat}(rs:Rps m H ds vs)(hn:ns=N.length)(hd:ds.length=np):EnvRel m H (ds.map some++List.replicate (ns-np) none) (L2.a1a N vs):=by
 unfold L2.a1a;refine⟨by simp[rs.len,hn,hd],fun i d e=>?_⟩
 by_cases hi:i<ds.length
 · rw[av (by simpa using hi),aj] at e
   rw[av (by simpa [rs.len] using hi),aj]
   cases hd':ds[i]? with
   |none=>rw[hd'] at e;cases e
   |some d'=>
    rw[hd'] at e;cases e;obtain⟨v,h1,h2⟩:=rs.get hd';exact⟨v,by rw[h1];rfl,h2⟩
 · rw[aq (by simpa using hi),bF] at e
   split at e<;>cases e
noncomputable def b8E:R Out->R D
 |.ok (.nx _) h=>.ok .non h
 |.ok (.rt d) h=>.ok d h
 |.no=>.no
theorem a3g(n:Nat)(f:Nat)(ds:List D)(h:AH):b0 ct F (n+1) f ds h=match F f with
 |none=>.no
 |some fd=>if ds.length=fd.np then gcR fd.gc h (b8E (exs ct (b0 ct F n) fd.body (ds.map some++List.replicate (fd.ns-fd.np) none) h)) else .no:=by
 show(match F f with
  |none=>R.no
  |some fd=>if ds.length=fd.np then gcR fd.gc h (match exs ct (b0 ct F n) fd.body (ds.map some++List.replicate (fd.ns-fd.np) none) h with
   |.ok (.nx _) h'=>.ok .non h'
   |.ok (.rt d) h'=>.ok d h'
   |.no=>.no) else .no)=_
 cases F f with
 |none=>rfl
 |some fd=>
  simp only
  generalize exs ct (b0 ct F n) fd.body (ds.map some++List.replicate (fd.ns-fd.np) none) h=r
  cases r with
  |ok o h=>cases o<;>rfl
  |no=>rfl
theorem a7J:(∀d v v' m0 H0,m0.length=n->Rp m0 H0 d v'->Rp m' H d v->Rp (m'.take n) H d v)/\∀l vs vs' m0 H0,m0.length=n->Rps m0 H0 l vs'->Rps m' H l vs->Rps (m'.take n) H l vs:=by
 refine D.ind (P:=fun d=>∀v v' m0 H0,m0.length=n->Rp m0 H0 d v'->Rp m' H d v->Rp (m'.take n) H d v) (Q:=fun l=>∀vs vs' m0 H0,m0.length=n->Rps m0 H0 l vs'->Rps m' H l vs->Rps (m'.take n) H l vs) ?_ ?_ ?_ ?_ ?_ ?_ ?_ ?_
 · intro v v' m0 H0 _ _ h;exact h
 · intro b v v' m0 H0 _ _ h;exact h
 · intro b v v' m0 H0 _ _ h;exact h
 · intro b v v' m0 H0 _ _ h;exact h
 · rintro l ih v v' m0 H0 hn ⟨a',vs',_,_,q'⟩ ⟨a,vs,rfl,e,q⟩;exact⟨a,vs,rfl,e,ih vs vs' m0 H0 hn q' q⟩
 · rintro k v v' m0 H0 hn ⟨a',_,e'⟩ ⟨a,rfl,e⟩;refine⟨a,rfl,?_⟩
   have:=(ac.mp e').1
   rw[bE (by omega)];exact e
 · intro vs vs' m0 H0 _ _ h;exact h
 · rintro d r ih ihs vs vs' m0 H0 hn ⟨v',t',_,q1',q2'⟩ ⟨v,t,rfl,q1,q2⟩;exact⟨v,t,rfl,ih v v' m0 H0 hn q1' q1,ihs t t' m0 H0 hn q2' q2⟩
theorem a1Q{α β β':Type}{R R':α->β->Prop}{R0:α->β'->Prop}(f:∀a b b',R0 a b'->R a b->R' a b):∀{l:List α} {l':List β'} {l2:List β},Paired R0 l l'->Paired R l l2->Paired R' l l2
 |_,_,_,.nil,.nil=>.nil
 |_,_,_,.cons h t,.cons h' t'=>.cons (f _ _ _ h h') (a1Q f t t')
theorem a9A{a0:Addr}{c:Cell}(hn:m.length=n)(h0:E3 Γ m H0 a0 c)(h:E3 Γ m' H a c):E3 Γ (m'.take n) H a c:=by
 have rp:=fun d v v' (h1:Rp m H0 d v') (h2:Rp m' H d v)=>(a7J (m':=m') (n:=n) (H:=H)).1 d v v' m H0 hn h1 h2
 have rps:=fun d v v' (h1:Rps m H0 d v') (h2:Rps m' H d v)=>(a7J (m':=m') (n:=n) (H:=H)).2 d v v' m H0 hn h1 h2
 have pr:∀{κ κ' κ'':Type} {l:List (κ×D)} {l':List (κ'×V)} {l2:List (κ''×V)} {A:κ->κ'->Prop} {B:κ->κ''->Prop},Paired (fun p q=>A p.1 q.1/\Rp m H0 p.2 q.2) l l'->Paired (fun p q=>B p.1 q.1/\Rp m' H p.2 q.2) l l2->Paired (fun p q=>B p.1 q.1/\Rp (m'.take n) H p.2 q.2) l l2:=
  fun h0 h=>a1Q (fun a b b' x y=>⟨y.1,rp _ _ _ x.2 y.2⟩) h0 h
 cases c with
 |lst l=>obtain⟨vs',_,r'⟩:=h0;obtain⟨vs,e,r⟩:=h;exact⟨vs,e,rps _ _ _ r' r⟩
 |rol l=>obtain⟨vs',_,r',_⟩:=h0;obtain⟨vs,e,r,z⟩:=h;exact⟨vs,e,rps _ _ _ r' r,z⟩
 |rod l=>
  obtain⟨u',_,_,r'⟩:=h0;obtain⟨u,o,e,r⟩:=h;refine⟨u,o,e,?_⟩
  rcases r with⟨kvs,z,r⟩|⟨kvs,z,r⟩
  · rcases r' with⟨kvs',_,r'⟩|⟨kvs',_,r'⟩
    · exact .inl ⟨kvs,z,pr (A:=fun p q=>E9 p=some q) (B:=fun p q=>E9 p=some q) r' r⟩
    · exact .inl ⟨kvs,z,pr (A:=fun(p:D) q=>∃l,p=D.tup l/\u7 l=some q) (B:=fun p q=>E9 p=some q) r' r⟩
  · rcases r' with⟨kvs',_,r'⟩|⟨kvs',_,r'⟩
    · exact .inr ⟨kvs,z,pr (A:=fun p q=>E9 p=some q) (B:=fun(p:D) q=>∃l,p=D.tup l/\u7 l=some q) r' r⟩
    · exact .inr ⟨kvs,z,pr (A:=fun(p:D) q=>∃l,p=D.tup l/\u7 l=some q) (B:=fun(p:D) q=>∃l,p=D.tup l/\u7 l=some q) r' r⟩
 |dict l=>
  rcases h with⟨kvs,e,r⟩|⟨kvs,e,r⟩
  · rcases h0 with⟨kvs',_,r'⟩|⟨kvs',_,r'⟩
    · exact .inl ⟨kvs,e,pr (A:=fun p q=>E9 p=some q) (B:=fun p q=>E9 p=some q) r' r⟩
    · exact .inl ⟨kvs,e,pr (A:=fun(p:D) q=>∃l,p=D.tup l/\u7 l=some q) (B:=fun p q=>E9 p=some q) r' r⟩
  · rcases h0 with⟨kvs',_,r'⟩|⟨kvs',_,r'⟩
    · exact .inr ⟨kvs,e,pr (A:=fun p q=>E9 p=some q) (B:=fun(p:D) q=>∃l,p=D.tup l/\u7 l=some q) r' r⟩
    · exact .inr ⟨kvs,e,pr (A:=fun(p:D) q=>∃l,p=D.tup l/\u7 l=some q) (B:=fun(p:D) q=>∃l,p=D.tup l/\u7 l=some q) r' r⟩
 |obj k fs=>obtain⟨dx',gs',_,r',_⟩:=h0;obtain⟨dx,gs,e,r,z⟩:=h;exact⟨dx,gs,e,pr (A:=fun p q=>p=q) (B:=fun p q=>p=q) r' r,z⟩
theorem Sim.drop{ah':AH}(s:Sim Γ ah m H)(s':Sim Γ ah' m' H')(p:Pre m m')(k:Keep m m' H H')(h:ah'.take ah.length=ah):Sim Γ ah m H':=by
 have hm:m'.take ah.length=m:=by
  obtain⟨t,rfl⟩:=p;rw[←s.len,List.take_left]
 refine⟨s.len,s.nd,fun n a c hn hc=>?_⟩
 have hl:=(ac.mp hc).1
 have hc':ah'[n]? =some c:=by
  rw[←h,bE hl] at hc
  exact hc
 have:=a9A (n:=ah.length) s.len (s.at hn hc) (s'.at (p.get hn) hc')
 rwa [hm] at this
theorem a9u{c:Cell}(f:c.flat=true)(h:E3 Γ m H a c):E3 Γ m' H a c:=by
 cases c with
 |lst l=>obtain⟨vs,e,r⟩:=h;exact⟨vs,e,(a4A (m':=m')).2 _ _ f r⟩
 | dict l=>
  have go:∀{κ:Type} {A:D->κ->Prop} {l:List (D×D)} {l2:List (κ×V)},(l.all fun p=>p.1.flat&&p.2.flat)=true->Paired (fun p q=>A p.1 q.1/\Rp m H p.2 q.2) l l2->Paired (fun p q=>A p.1 q.1/\Rp m' H p.2 q.2) l l2:=by
   intro κ A l l2 hf hp
   induction hp with
   |nil=>exact .nil
   |cons h t ih=>
    rw[all_cons,ae,ae] at hf;exact .cons ⟨h.1,(a4A (m':=m')).1 _ _ hf.1.2 h.2⟩ (ih hf.2)
  rcases h with⟨kvs,e,r⟩|⟨kvs,e,r⟩
  · exact .inl ⟨kvs,e,go (A:=fun p q=>E9 p=some q) f r⟩
  · exact .inr ⟨kvs,e,go (A:=fun(p:D) q=>∃l,p=D.tup l/\u7 l=some q) f r⟩
 |_=>cases f
theorem b9i {E :XK} {g:Nat} {r:R Out} (s:Sim Γ ah m H) (h:d5 Γ E m H (gcR g ah (b8E r)) Q):f8 Γ E m H r (SQ {nx:=fun _ H'=>Q .non H',rt:=Q}):=by
 have main : ∀{d:D} {ah':AH},d5 Γ E m H (gcR g ah (.ok d ah')) Q->∀m' H' v,Pre m m'->Keep m m' H H'->Sim Γ ah' m' H'->Rp m' H' d v->Q v H':=by
  intro d ah' h m' H' v p k s' rv;unfold gcR at h
  simp only at h
  split at h
  · exact h m' H' v p k s' rv
  · split at h
    · split at h
      · rename_i hh;exact h m H' v (Pre.refl m) ⟨k.imm,k.out,fun _ z=>.inl z⟩ (s.drop s' p k hh.1) ((a4A (m':=m)).1 d v hh.2 rv)
      · exact h.elim
    · split at h
      · rename_i kk
        split at h
        · rename_i c hc
          split at h
          · rename_i hh;obtain⟨a,rfl,ha⟩:=rv;have s0:=s.drop s' p k hh.1
            have hna:a∉m:=fun z=>by
             obtain⟨i,hi⟩:=bj z
             have e1:=p.get hi;have hlt:=(ac.mp hi).1
             obtain⟨h1,e1⟩:=ac.mp e1
             obtain⟨h2,e2⟩:=ac.mp ha
             have:=(getElem_inj s'.nd).mp (e1.trans e2.symm)
             have hl:=s.len;omega
            have Hn:H a=none:=by
             rcases k.fr a (aG ha) with z|z
             · exact absurd z hna
             · exact z
            refine h (m++[a]) H' (.ref a) (Pre.snoc m a) ⟨k.imm,k.out,fun b hb=>?_⟩ ?_ ⟨a,rfl,?_⟩
            · rcases aK.mp hb with z|z
              · exact .inl z
              · simp at z;subst z;exact .inr Hn
            · refine⟨by simp[s.len],a0L s.nd hna,fun n b cc hn hcc=>?_⟩
              by_cases hl:n<m.length
              · rw[av hl] at hn
                rw[av (by rw[←s.len];exact hl)] at hcc
                exact(s0.at hn hcc).mono' (Pre.snoc m a) (fun _ _ _ z=>z) rfl
              · have hn':n=m.length:=by
                 have:=(ac.mp hn).1
                 simp at this;omega
                subst hn';rw[aq (ai _)] at hn
                rw[s.len,aq (ai _)] at hcc
                simp at hn hcc;subst hn;subst hcc
                exact a9u hh.2.2 (s'.at ha hc)
            · rw[←s.len,aq (ai _)];simp
          · exact h.elim
        · exact h.elim
      · exact h.elim
 cases r with
 |ok o ah'=>
  cases o with
  |nx env=>exact fun m' H' p k s' σ' _=>main h m' H' .non p k s' rfl
  |rt d=>exact fun m' H' p k s' v rv=>main h m' H' v p k s' rv
 |no=>exact h.elim
theorem a5e(S:Stat P w Γ G ct F mg)(ih1:∀x id np,G.fn.lookup x=some (id,np)->∃f fd ps,ps.length=np/\mg x= ~~~f/\PySem.W.keepIn Γ.K (.ref f)=true/\T7 Γ.K fd ps []/\∀base,FnOk P w Γ.K mg base CX0 (2*n+6) f fd ps (a4w Γ (b0 ct F n) id np))
 (ih2:∀x k,G.obj.lookup x=some k->k∈Γ.ob/\mg x=some (.ref (Γ.cA k))/\∃f fd ps,ps.length=1/\Mk Γ.K (Γ.cA k) f/\T7 Γ.K fd ps []/\∀base,FnOk P w Γ.K mg base CX0 (2*n+6) f fd ps (a4w Γ (b0 ct F n) (ct.init k) 1))
 (ar:∀x id np,G.fn.lookup x=some (id,np)->∀ds h,ds.length≠np->b0 ct F n id ds h=.no)
 {qual:Str} {f:Addr} {fd:FuncData} {ps:List Str} (R:RowOk Γ.K G F x qual id np f fd st N ps) (base:Heap):FnOk P w Γ.K mg base CX0 (2*(n+1)+6) f fd ps (a4w Γ (b0 ct F (n+1)) id np):=by
 obtain⟨fn,F1,F2,F3,F4⟩:=R.F;obtain⟨oc,od,kV,doc,pm,an,cdv,ct',osl,rfl,lk,hcd⟩:=R.fn.ex;refine b9m (k:=2*n+7) lk hcd R.sc (fun vs H Q E h=>?_) fun A outer s H vs Q E hr hsp=>?_
 · obtain⟨ds,ah,m,h1,h2,_⟩:=h;rw[h2.len,h1,R.np]
 · obtain⟨ds,ah,m,h1,h2,h3,h4⟩:=hsp
   have C:Cxt (a7r CX0 P w Γ.K mg base N qual (o8 st) f cdv A outer s H E) Γ G ct (b0 ct F n) E N (o8 st) true:=by
    refine⟨rfl,R.sc.nd,rfl,rfl,?_,rfl,fun _ _=>rfl,S.scal,S.tups,S.dicts,S.blt,fun y i j hy=>?_,fun y k hy=>?_,S.att⟩
    · exact Nat.lt_of_le_of_lt (Nat.add_le_add_left (by decide:8<=64) _) hr.units
    · obtain⟨f',fd',ps',a1,a2,a3,a4,a5⟩:=ih1 y i j hy;exact⟨2*n+6,f',fd',ps',a1,hr.mono (by omega),a2,a3,a4,a5 base,ar y i j hy⟩
    · obtain⟨b1,b2,f',fd',ps',a1,a2,a3,a4⟩:=ih2 y k hy;exact⟨b1,2*n+6,f',fd',ps',a1,hr.mono (by omega),a2,b2,a3,a4 base⟩
   have Cs:Cxs (a7r CX0 P w Γ.K mg base N qual (o8 st) f cdv A outer s H E) Γ G ct (b0 ct F n) E N (o8 st):=by
    exact⟨C,PassesOwn.leaving⟩
   refine⟨_,b2s Cs 20 _ _ F4,ds.map some++List.replicate (fn.ns-fn.np) none,ah,m,⟨h3,a9v h2 F3 (by rw[h1,F2])⟩,?_⟩
   rw[a3g,F1] at h4
   simp only at h4
   rw[ay (by rw[h1,F2])] at h4
   exact b9i h3 h4
theorem b2x(S:Stat P w Γ G ct F mg):∀n x id np,G.fn.lookup x=some (id,np)->∀ds h,ds.length≠np->b0 ct F n id ds h=.no
 |0,_,_,_,_,_,_,_=>rfl
 |n+1,x,id,np,hx,ds,h,hl=>by
  obtain⟨_,_,_,_,_,_,R⟩:=S.fn x id np hx;obtain⟨fn,F1,F2,_⟩:=R.F;rw[a3g,F1]
  simp only
  rw[az (by rw[F2];exact hl)]
theorem b6U(S:Stat P w Γ G ct F mg):∀n,(∀x id np,G.fn.lookup x=some (id,np)->∃f fd ps,ps.length=np/\mg x= ~~~f/\PySem.W.keepIn Γ.K (.ref f)=true/\T7 Γ.K fd ps []/\∀base,FnOk P w Γ.K mg base CX0 (2*n+6) f fd ps (a4w Γ (b0 ct F n) id np))∧
 (∀x k,G.obj.lookup x=some k->k∈Γ.ob/\mg x=some (.ref (Γ.cA k))/\∃f fd ps,ps.length=1/\Mk Γ.K (Γ.cA k) f/\T7 Γ.K fd ps []/\∀base,FnOk P w Γ.K mg base CX0 (2*n+6) f fd ps (a4w Γ (b0 ct F n) (ct.init k) 1)):=by
 have zero:∀{k:Nat} {f:Addr} {fd:FuncData} {ps:List Str} {id np:Nat} {base:Heap},FnOk P w Γ.K mg base CX0 k f fd ps (a4w Γ (b0 ct F 0) id np):=fun{k f fd ps id np base}=>
  ⟨fun vs H Q E h=>by obtain⟨_,_,_,_,_,_,z⟩:=h;exact z.elim,fun A outer s H args us vs Q E _ _ _ _ h=>by obtain⟨_,_,_,_,_,_,z⟩:=h;exact z.elim⟩
 intro n
 induction n with
 |zero=>
  refine⟨fun x id np hx=>?_,fun x k hk=>?_⟩
  · obtain⟨f,fd,st,N,ps,g,R⟩:=S.fn x id np hx;exact⟨f,fd,ps,R.np,g,R.fn.kp,R.bd,fun base=>zero⟩
  · obtain⟨o1,o2,f,fd,st,N,ps,qual,M,R⟩:=S.obj x k hk;exact⟨o1,o2,f,fd,ps,R.np,M,R.bd,fun base=>zero⟩
 |succ n ih=>
  refine⟨fun x id np hx=>?_,fun x k hk=>?_⟩
  · obtain⟨f,fd,st,N,ps,g,R⟩:=S.fn x id np hx;exact⟨f,fd,ps,R.np,g,R.fn.kp,R.bd,fun base=>a5e S ih.1 ih.2 (b2x S n) R base⟩
  · obtain⟨o1,o2,f,fd,st,N,ps,qual,M,R⟩:=S.obj x k hk;exact⟨o1,o2,f,fd,ps,R.np,M,R.bd,fun base=>a5e S ih.1 ih.2 (b2x S n) R base⟩
end
end EV
namespace L2T
open PySem
abbrev cd(z:Str):List Nat:=z.cps.toList
variable{x:Str}
theorem a0W{y:Str}(h:cd x=cd y):x=y:=by
 cases x;cases y
 exact congrArg Str.mk (Array.toList_inj.mp h)
theorem K8(x y:Str):cd (x++y)=cd x++cd y:=by
 show(x.cps++y.cps).toList=_
 simp
theorem o7(x:Str):(cd x).length=x.length:=by simp[cd,Str.length]
noncomputable def jn(c:Nat):List (List Nat)->List Nat
 |[]=>[]
 |[x]=>x
 |x::y::r=>x++c::jn c (y::r)
theorem a2y(c:Nat):∀ps:List Str,cd (Str.join ⟨#[c]⟩ ps)=jn c (ps.map cd)
 |[]=>rfl
 |[x]=>rfl
 |x::y::r=>by
  show cd (x++⟨#[c]⟩++Str.join ⟨#[c]⟩ (y::r))=cd x++c::jn c ((y::r).map cd)
  rw[K8,K8,a2y c (y::r)];simp[cd]
theorem a4d{c:Nat}:∀{p q a b:List Nat},c∉p->c∉q->p++c::a=q++c::b->p=q/\a=b
 |[],[],a,b,_,_,h=>⟨rfl,by simpa using h⟩
 |[],y::q,a,b,_,hq,h=>by
  have e:c=y:=(List.cons.inj h).1
  exact absurd (by rw[e];exact bf) hq
 |x::p,[],a,b,hp,_,h=>by
  have e:x=c:=(List.cons.inj h).1
  exact absurd (by rw[←e];exact bf) hp
 |x::p,y::q,a,b,hp,hq,h=>by
  obtain⟨e1,e2⟩:=List.cons.inj h;obtain⟨e3,e4⟩:=a4d (fun z=>hp (aD _ z)) (fun z=>hq (aD _ z)) e2
  exact⟨by rw[e1,e3],e4⟩
theorem b1o{c:Nat}:∀{ps qs:List (List Nat)},ps≠[]->qs≠[]->(∀p∈ps,c∉p)->(∀q∈qs,c∉q)->jn c ps=jn c qs->ps=qs
 |[],_,h,_,_,_,_=>absurd rfl h
 |_::_,[],_,h,_,_,_=>absurd rfl h
 |[x],[y],_,_,_,_,h=>by rw[show x=y from h]
 |[x],y::z::r,_,_,hp,_,h=>by
  have h':x=y++c::jn c (z::r):=h
  exact absurd (by rw[h'];simp) (hp x bf)
 |x::y::r,[z],_,_,_,hq,h=>by
  have h':x++c::jn c (y::r)=z:=h
  exact absurd (by rw[←h'];simp) (hq z bf)
 |x::y::r,z::u::t,_,_,hp,hq,h=>by
  obtain⟨e1,e2⟩:=a4d (hp x bf) (hq z bf) h;have e3:=b1o (cons_ne_nil _ _) (cons_ne_nil _ _) (fun p hp'=>hp p (aD _ hp')) (fun q hq'=>hq q (aD _ hq')) e2
  rw[e1,e3]
theorem a7X:∀{ps qs:List Str},ps.map cd=qs.map cd->ps=qs
 |[],[],_=>rfl
 |[],_::_,h=>by cases h
 |_::_,[],h=>by cases h
 |x::r,y::t,h=>by
  obtain⟨e1,e2⟩:=List.cons.inj h;rw[a0W e1,a7X e2]
variable{c:Nat}
theorem a2E{ps:List Str}(hn:ps≠[])(hf:∀p∈ps,c∉cd p)(h:cd x=jn c (ps.map cd)):Txt.split x ⟨#[c]⟩=ps:=by
 have h1:=StrLaws.join_split x ⟨#[c]⟩
 have h2:jn c ((Txt.split x ⟨#[c]⟩).map cd)=jn c (ps.map cd):=by rw[←a2y,h1,h]
 have h3:Txt.split x ⟨#[c]⟩≠[]:=fun e=>by
  have:=PyProof.Rows.split_pos x ⟨#[c]⟩
  rw[e] at this;exact absurd this (by decide)
 refine a7X (b1o (fun e=>h3 (List.map_eq_nil_iff.mp e)) (fun e=>hn (List.map_eq_nil_iff.mp e)) (fun p hp=>?_) (fun p hp=>?_) h2)
 · obtain⟨q,hq,rfl⟩:=ak.mp hp;exact StrLaws.split_free x c q hq
 · obtain⟨q,hq,rfl⟩:=ak.mp hp;exact hf q hq
def b9p:Str:="0123456789"
noncomputable def a1b:Str:="abcdefghijklmnopqrstuvwxyz0123456789"
def Q6(c:Nat):Bool:=decide (c∈cd a1b)
def T0(c:Nat):Bool:=decide (c∈cd b9p)
theorem a5g(c:Nat):T0 c=true↔48<=c/\c<=57:=by
 unfold T0;rw[decide_eq_true_iff,show cd b9p=List.range' 48 10 from by decide+kernel,List.mem_range'_1]
 exact and_congr_right fun _=>Nat.lt_succ_iff
def g9(z:Str):Bool:=decide (1<=z.length)&&decide (z.length<=12)&&(cd z).all Q6
noncomputable def a1S(z:Str):Bool:=decide (1<=z.length)&&decide (z.length<=5)&&(cd z).all T0&&(decide (z="0")||!decide ((cd z).head? =some 48))
noncomputable def U8(z:Str):Option Int:=if(cd z).all T0=true then(if z=""∨5<z.length∨((cd z).head? =some 48/\1<z.length) then none else some ((NumText.digitsVal (cd z):Nat):Int)) else none
noncomputable def tl(z:Str):Str:=⟨((cd z).drop 1).toArray⟩
theorem a8B(z:Str):cd (tl z)=(cd z).drop 1:=by simp[tl,cd]
def a3F(z:Str):Bool:=if(cd z).head? =some 45 then(!decide (z="-0")&&a1S (tl z)) else a1S z
def a0z(z:Str):Option Int:=if(cd z).head? =some 45 then(match U8 (tl z) with|none=>none|some n=>if n=0 then none else some (-n)) else U8 z
theorem a9i(z:Str):z=""↔z.length=0:=by
 constructor
 · rintro rfl;rfl
 · intro h;refine a0W ?_
   have:(cd z).length=0:=by rw[o7];exact h
   rw[length_eq_zero_iff.mp this];rfl
variable{z:Str}
theorem a3l(h:(cd z).all T0=true):NumText.AllDigits (cd z):=fun c hc=>(a5g c).mp (bu.mp h c hc)
theorem a4b:∀(cs:List Nat) (a:Nat),a<=cs.foldl (fun acc c=>acc*10+(c-48)) a
 |[],a=>ai _
 |c::r,a=>aU (by omega) (a4b r (a*10+(c-48)))
theorem a7q{r:List Nat}(h:48<c):0<NumText.digitsVal (c::r):=by
 unfold NumText.digitsVal;rw[foldl_cons];exact aC (by omega) (a4b r (0*10+(c-48)))
theorem a2Q:a1S z=(U8 z).isSome:=by
 unfold a1S U8
 by_cases h:(cd z).all T0=true
 · rw [ay h,h]
   by_cases q:z=""∨5<z.length∨((cd z).head? =some 48/\1<z.length)
   · rw[ay q]
     show _=false
     rcases q with q|q|⟨q1,q2⟩
     · rw[a9i] at q;simp[q]
     · simp[show¬z.length<=5 by omega]
     · have ne:¬z="0":=by rintro rfl;exact absurd q2 (by decide)
       simp[q1,ne]
   · rw [az q]
     show _=true
     have q1:¬z.length=0:=fun e=>q (.inl ((a9i z).mpr e))
     have q2:z.length<=5:=aX fun e=>q (.inr (.inl e))
     have q3:z="0"∨¬(cd z).head? =some 48:=by
      by_cases e:(cd z).head? =some 48
      · left
        have l:z.length=1:=by
         have k:¬1<z.length:=fun e'=>q (.inr (.inr ⟨e,e'⟩))
         omega
        refine a0W ?_
        have l':(cd z).length=1:=by rw[o7];exact l
        obtain⟨x,hx⟩:=List.length_eq_one_iff.mp l';rw[hx] at e⊢
        have e':x=48:=by simpa using e
        rw[e']
        decide+kernel
      · exact .inr e
     have a1:1<=z.length:=by omega
     rcases q3 with q3|q3
     · rw[q3];decide+kernel
     · simp[a1,q2,q3]
 · rw[az h]
   show _=false
   simp[show(cd z).all T0=false from by simpa using h]
variable{n:Int}
theorem a2t (h:U8 z=some n):intText? z=some n/\z.length<=640/\0<=n/\(n=0↔z="0"):=by
 unfold U8 at h
 by_cases q:(cd z).all T0=true
 · rw[ay q] at h
   by_cases p:z=""∨5<z.length∨((cd z).head? =some 48/\1<z.length)
   · rw[ay p] at h;cases h
   · rw [az p] at h;cases h
     have p1:¬z.length=0:=fun e=>p (.inl ((a9i z).mpr e))
     have p2:z.length<=5:=aX fun e=>p (.inr (.inl e))
     have ne:cd z≠[]:=fun e=>p1 (by rw[←o7,e];rfl)
     refine⟨PySem.intText_digits (a3l q) ne (by omega),by omega,Int.natCast_nonneg _,?_,?_⟩
     · intro e
       have e0:NumText.digitsVal (cd z)=0:=by omega
       cases hz:cd z with
       |nil=>exact absurd hz ne
       | cons c r=>
        have hc:c=48:=by
         have:=(a3l q) c (by rw[hz];exact bf)
         rw[hz] at e0
         by_cases k:48<c
         · exact absurd (a7q (r:=r) k) (by omega)
         · omega
        have hl:¬1<z.length:=fun e'=>p (.inr (.inr ⟨by rw[hz,hc];rfl,e'⟩))
        have hr:r=[]:=by
         have:(cd z).length=r.length+1:=by rw[hz];rfl
         rw[o7] at this;exact length_eq_zero_iff.mp (by omega)
        refine a0W ?_
        rw[hz,hc,hr]
        decide+kernel
     · rintro rfl
       decide+kernel
 · rw[az q] at h;cases h
theorem a5L:a3F z=(a0z z).isSome:=by
 unfold a3F a0z
 by_cases h:(cd z).head? =some 45
 · rw [ay h,ay h,a2Q]
   have hz:(z="-0")↔tl z="0":=by
    constructor
    · rintro rfl;decide+kernel
    · intro e;refine a0W ?_
      have e1:(cd z).drop 1=cd "0":=by rw[←a8B,e]
      cases hc:cd z with
      |nil=>rw[hc] at h;cases h
      |cons c r=>
       rw[hc] at h e1
       have hc':c=45:=by simpa using h
       have hr:r=cd "0":=e1
       rw[hc',hr]
       decide+kernel
   cases q:U8 (tl z) with
   |none=>simp
   |some n=>
    obtain⟨_,_,_,k⟩:=a2t q
    by_cases e:n=0
    · simp[e,hz,k.mp e]
    · have k':¬tl z="0":=fun z'=>e (k.mpr z')
      simp[e,hz,k']
 · rw[az h,az h];exact a2Q
theorem a2o(h:a0z z=some n):intText? z=some n/\z.length<=640:=by
 unfold a0z at h
 by_cases q:(cd z).head? =some 45
 · rw [ay q] at h
   cases e:U8 (tl z) with
   |none=>rw[e] at h;cases h
   |some m=>
    rw[e] at h
    dsimp only at h
    by_cases m0:m=0
    · rw[ay m0] at h;cases h
    · rw [az m0] at h;cases h
      cases hc:cd z with
      |nil=>rw[hc] at q;cases q
      |cons c r=>
       have hc':c=45:=by rw[hc] at q;simpa using q
       have ht:cd (tl z)=r:=by rw[a8B,hc];rfl
       unfold U8 at e
       by_cases f:(cd (tl z)).all T0=true
       · rw[ay f] at e
         by_cases p:tl z=""∨5<(tl z).length∨((cd (tl z)).head? =some 48/\1<(tl z).length)
         · rw[ay p] at e;cases e
         · rw[az p] at e;cases e
           have l2:(tl z).length<=5:=aX fun k=>p (.inr (.inl k))
           have l3:z.length=(tl z).length+1:=by rw[←o7 z,←o7 (tl z),ht,hc];rfl
           have ne:r≠[]:=fun k=>p (.inl ((a9i _).mpr (by rw[←o7,ht,k];rfl)))
           refine⟨?_,by omega⟩
           rw[ht];exact PySem.intText_neg (by rw[←hc'];exact hc) (ht▸a3l f) ne (by omega)
       · rw[az f] at e;cases e
 · rw[az q] at h;exact⟨(a2t h).1,(a2t h).2.1⟩
end L2T
namespace EV
open PySem L2
noncomputable def abc:Str:="abcdefghijklmnopqrstuvwxyz"
def cA:E:=(.comp (.nm 0) (.rng1 (.v 1)) 1 [3,2,1] .yes (.bin .mul (.ix (.v 2) (.v 1)) (.bin .sub (.v 3) (.v 0))))
def cS:E:=(.comp (.nm 0) (.rng1 (.v 4)) 1 [0,2] .yes (.ix (.bin .add (.v 2) (.s "0123456789")) (.bin .mod (.bin .add (.bin .div (.v 1) (.i 16224)) (.bin .mul (.i 7) (.v 0))) (.i 36))))
def cB:E:=(.comp (.nm 0) (.rng1 (.v 1)) 1 [3,2,5,6] .yes (.bin .add (.bin .add (.sl (.v 4) .no (.at (.v 3))) (.ix (.v 2) (.bin .mod (.bin .add (.v 1) (.bin .mul (.i 5) (.v 0))) (.i 26)))) (.sl (.v 4) (.at (.v 3)) .no)))
def wE:E:=(.ix (.lst (.cons (.i 0) (.cons (.bin .mod (.bin .div (.v 5) (.i 4)) (.i 20)) (.cons (.bin .mod (.bin .div (.v 5) (.i 4)) (.i 1000)) (.o (.bin .mod (.bin .div (.v 5) (.i 4)) (.i 99999))))))) (.bin .mod (.v 5) (.i 4)))
def wB:Ss:=(.cons (.set 5 (.call 202 (.cons (.v 0) (.o (.bin .add (.v 4) (.i 10)))))) (.o (.ex (.mt .append (.v 3) (.cons wE .nil)))))
def b0d:E:=(.ix (.lst (.cons (.s "above") (.o (.s "below")))) (.bin .mod (.bin .div (.v 4) (.i 4)) (.i 2)))
def b8P:Ss:=(.o (.ex (.mt .append (.v 2) (.o (.tup (.cons (.ix (.ix (.v 1) (.v 3)) (.i 0)) (.cons (.v 5) (.cons (.call 205 (.o (.bin .div (.v 4) (.i 8)))) (.o (.call 205 (.o (.bin .div (.v 4) (.i 8000)))))))))))))
def mkB:Ss:=(.cons (.set 4 (.call 202 (.cons (.v 0) (.o (.bin .add (.v 3) (.i 40)))))) (.o (.iff (.cmp .eq (.bin .mod (.v 4) (.i 4)) (.i 1)) (.cons (.set 5 b0d) b8P) .nil)))
def b0B:Ss:=(.o (.iff (.cmp .gt (.bin .mod (.bin .div (.v 4) (.i 2)) (.i 3)) (.i 0)) (.o (.ex (.mt .append (.v 2) (.o (.tup (.cons (.ix (.ix (.v 1) (.v 3)) (.i 0)) (.cons (.v 5) (.o (.call 205 (.o (.bin .div (.v 4) (.i 6)))))))))))) .nil))
def ptB:Ss:=(.cons (.set 4 (.call 202 (.cons (.v 0) (.o (.bin .add (.v 3) (.i 70)))))) (.o (.for (.nm 5) (.seq (.sl (.lst (.cons (.s "above") (.o (.s "below")))) (.at (.bin .mod (.v 4) (.i 2))) .no)) b0B)))
noncomputable def jnD:List (D×D):=[((.str "both"),(.int (4))),((.str "back"),(.int (2))),((.str "none"),(.int (1))),((.str "clear"),(.int (1)))]
noncomputable def jnE:E:=(.lst (.cons (.s "both") (.cons (.s "back") (.cons (.s "none") (.cons (.s "both") (.cons (.s "clear") (.o (.s "both"))))))))
noncomputable def wyE:E:=(.lst (.cons (.s "left") (.cons (.s "right") (.o (.s "either")))))
def fcE:E:=(.comp (.nm 0) (.rng1 (.v 8)) 1 [6,1] .yes (.ix (.ix (.v 2) (.bin .mod (.bin .div (.v 1) (.bin .add (.bin .mul (.bin .mul (.v 0) (.v 0)) (.i 31)) (.i 7))) (.bi .len (.o (.v 2))))) (.i 0)))
def lB5:Ss:=(.o (.ex (.mt .append (.v 4) (.o (.tup (.cons (.ix (.v 3) (.v 5)) (.cons (.v 7) (.cons (.ix wyE (.bin .mod (.bin .div (.v 6) (.i 6)) (.i 3))) (.o (.v 9))))))))))
def lB4:Ss:=(.cons (.set 9 (.bi .tuple (.cons fcE .nil))) lB5)
def lB3:Ss:=(.cons (.set 8 (.ix (.dlit jnD) (.v 7))) lB4)
def lB:Ss:=(.cons (.set 6 (.call 202 (.cons (.v 0) (.o (.bin .add (.v 5) (.i 100)))))) (.cons (.set 7 (.ix jnE (.bin .mod (.v 6) (.i 6)))) lB3))
def smE:E:=(.comp (.nm 0) (.rng1 (.bin .add (.i 1) (.bin .mod (.v 6) (.i 5)))) 1 [6,1] .yes (.ix (.ix (.v 2) (.bin .mod (.bin .div (.v 1) (.bin .add (.bin .mul (.v 0) (.i 13)) (.i 5))) (.bi .len (.o (.v 2))))) (.i 0)))
def kB:Ss:=(.cons (.set 6 (.call 202 (.cons (.v 0) (.o (.bin .add (.v 4) (.i 130)))))) (.cons (.set 7 smE) (.o (.ex (.mt .append (.v 3) (.o (.tup (.cons (.v 5) (.o (.bi .tuple (.o (.v 7))))))))))))
def feE:E:=(.comp (.tp (.cons (.nm 0) (.cons (.nm 1) .nil))) (.enum (.call 203 (.cons (.bin .div (.v 6) (.i 3)) (.o (.bin .add (.i 1) (.bin .mod (.v 6) (.i 3))))))) 2 [6] .yes (.tup (.cons (.v 1) (.o (.bin .gt (.bin .mod (.bin .div (.v 2) (.bin .add (.v 0) (.i 5))) (.i 4)) (.i 0))))))
def gpE:E:=(.comp (.tp (.cons (.nm 0) (.cons (.nm 1) .nil))) (.enum (.v 4)) 2 [6] (.cmp .eq (.bin .mod (.bin .div (.v 2) (.bin .add (.bin .mul (.i 7) (.v 0)) (.i 9))) (.i 4)) (.i 0)) (.ix (.v 1) (.i 0)))
def hB4:Ss:=(.cons (.set 9 gpE) (.cons (.set 10 (.call 206 (.cons (.v 2) (.o (.v 3))))) (.cons (.set 11 (.call 207 (.cons (.v 2) (.o (.v 3))))) (.o (.ret (.tup (.cons (.v 3) (.cons (.v 10) (.cons (.v 11) (.cons (.v 4) (.cons (.v 9) (.cons (.v 5) (.cons (.v 7) (.o (.v 8)))))))))))))))
def hB3:Ss:=(.cons (.set 7 feE) (.cons (.set 8 (.call 211 (.cons (.call 201 (.cons (.v 0) (.o (.i 3)))) (.cons (.v 1) (.cons (.v 3) (.cons (.v 4) (.cons (.v 5) (.o (.v 7))))))))) hB4))
def hB2:Ss:=(.cons (.set 4 (.call 208 (.cons (.call 201 (.cons (.v 0) (.o (.i 1)))) (.o (.v 3))))) (.cons (.set 5 (.call 209 (.cons (.call 201 (.cons (.v 0) (.o (.i 2)))) (.o (.v 3))))) (.cons (.set 6 (.call 202 (.cons (.call 201 (.cons (.v 0) (.o (.i 2)))) (.o (.i 5))))) hB3)))
def b4b:E:=(.bin .add (.bin .add (.bin .add (.s "shape ") (.v 0)) (.s " ")) (.bi .str (.o (.v 1))))
def b9f:E:=(.comp (.tp (.cons (.nm 0) (.cons (.nm 1) .nil))) (.seq (.ix (.v 0) (.i 0))) 2 [] .yes b4b)
def b4d:Ss:=(.cons (.set 6 (.bin .add (.bin .add (.call 213 (.o (.v 4))) (.s " ")) (.call 213 (.o (.v 5))))) (.o (.ex (.mt .append (.v 2) (.o (.bin .add (.bin .add (.bin .add (.bin .add (.bin .add (.s "mark ") (.v 1)) (.s " ")) (.v 3)) (.s " ")) (.v 6)))))))
def b6Q:E:=(.bin .add (.bin .add (.bin .add (.bin .add (.bin .add (.s "point ") (.v 0)) (.s " ")) (.v 1)) (.s " ")) (.call 213 (.o (.v 2))))
def b9e:E:=(.comp (.tp (.cons (.nm 0) (.cons (.nm 1) (.cons (.nm 2) .nil)))) (.seq (.ix (.v 0) (.i 2))) 3 [] .yes b6Q)
def b8Z:E:=(.bin .add (.lst (.cons (.s "letter") (.cons (.v 1) (.cons (.v 7) (.o (.v 8)))))) (.bi .list (.o (.v 9))))
def b4c:Ss:=(.o (.ex (.mt .append (.v 2) (.o (.mt .join (.s " ") (.cons b8Z .nil))))))
def b9d:E:=(.comp (.nm 0) (.seq (.ix (.v 0) (.i 4))) 1 [] .yes (.bin .add (.s "gap ") (.v 0)))
def b6O:E:=(.bin .add (.lst (.cons (.s "class") (.o (.v 0)))) (.bi .list (.o (.v 1))))
def b9c:E:=(.comp (.tp (.cons (.nm 0) (.cons (.nm 1) .nil))) (.seq (.ix (.v 0) (.i 5))) 2 [] .yes (.mt .join (.s " ") (.cons b6O .nil)))
def b6P:E:=(.bin .add (.bin .add (.bin .add (.s "feature ") (.v 0)) (.s " ")) (.ix (.lst (.cons (.s "off") (.o (.s "on")))) (.bi .int (.o (.v 1)))))
def b9b:E:=(.comp (.tp (.cons (.nm 0) (.cons (.nm 1) .nil))) (.seq (.ix (.v 0) (.i 6))) 2 [] .yes b6P)
noncomputable def b9a:E:=(.comp (.nm 0) (.seq (.ix (.v 0) (.i 7))) 1 [] .yes (.call 214 (.o (.v 0))))
noncomputable def htP(a b c d:Nat):Pat:=.tp (.cons (.nm a) (.cons (.nm b) (.cons (.nm c) (.cons (.nm d) .nil))))
def c8E:E:=(.ix (.lst (.cons (.i 0) (.cons (.i 1) (.cons (.i 1) (.cons (.i 1) (.cons (.i 2) (.cons (.i 2) (.cons (.i 3) (.o (.i 4)))))))))) (.bin .mod (.v 7) (.i 8)))
def cB3:Ss:=(.cons (.ex (.mt .append (.v 3) (.o (.tup (.cons (.ix (.ix (.v 2) (.bin .mod (.bin .div (.v 7) (.i 8)) (.bi .len (.o (.v 2))))) (.i 0)) (.o (.trng (.v 4) (.bin .add (.v 4) (.v 8))))))))) (.o (.set 4 (.bin .add (.v 4) (.v 8)))))
def cB2:Ss:=(.cons (.iff (.cmp .eq (.v 4) (.i 0)) (.o (.set 8 (.bi .max (.cons (.i 1) (.o (.v 8)))))) .nil) cB3)
def cB1:Ss:=(.cons (.set 7 (.call 202 (.cons (.v 6) (.o (.bin .add (.v 5) (.i 400)))))) (.cons (.set 8 c8E) cB2))
def hoB:Ss:=(.o (.iff (.cmp .gt (.bi .len (.o (.ix (.v 3) (.i 1)))) (.i 0)) (.cons (.ex (.mt .append (.v 1) (.o (.ix (.ix (.v 3) (.i 1)) (.i 0))))) (.o (.set 2 (.ix (.ix (.v 3) (.i 1)) (.neg (.i 1)))))) (.o (.ex (.mt .append (.v 1) (.o (.v 2)))))))
def wyA:E:=(.call 202 (.cons (.call 201 (.cons (.v 0) (.o (.bin .mod (.v 5) (.bi .max (.cons (.i 1) (.o (.bi .len (.o (.v 0)))))))))) (.o (.bin .add (.v 5) (.i 500)))))
noncomputable def wyC:Ss:=(.o (.ex (.mt .append (.v 2) (.o (.v 3)))))
def wyB:S:=(.iff (.cmp .lt (.bin .mod (.v 6) (.i 4)) (.bin .add (.i 1) (.bin .mod (.v 4) (.i 3)))) (.o (.set 3 (.ix (.lst (.cons (.s "left") (.o (.s "right")))) (.bin .mod (.bin .div (.v 6) (.i 4)) (.i 2))))) .nil)
def brN:S:=(.iff (.orr (.cmp .eq (.bi .len (.o (.v 4))) (.i 0)) (.cmp .ne (.ix (.ix (.v 4) (.neg (.i 1))) (.i 0)) (.v 7))) (.o (.ex (.mt .append (.v 4) (.o (.tup (.cons (.v 7) (.o (.lst .nil)))))))) .nil)
noncomputable def brA:Ss:=(.o (.ex (.mt .append (.ix (.ix (.v 4) (.neg (.i 1))) (.i 1)) (.o (.v 5)))))
noncomputable def brO:E:=(.ix (.v 2) (.ix (.v 3) (.v 5)))
def brB:Ss:=(.o (.iff (.cmp .notin (.ix (.v 6) (.i 0)) (.fld (.v 0) "marks")) (.cons (.set 7 brO) (.cons brN brA)) .nil))
def soB:Ss:=(.o (.iff (.cmp .eq (.v 6) (.s "right")) (.o (.ex (.mt .extend (.v 5) (.o (.rev (.v 7)))))) (.o (.ex (.mt .extend (.v 5) (.o (.v 7)))))))
def soR:S:=(.iff (.cmp .eq (.v 3) (.s "right")) (.o (.set 4 (.rev (.v 4)))) .nil)
def bsB:Ss:=(.cons (.six (.v 3) (.v 5) (.tup (.cons (.v 4) (.o (.i 0))))) (.o (.set 4 (.bin .add (.v 4) (.ix (.fld (.v 0) "shapes") (.ix (.ix (.v 1) (.v 5)) (.i 0)))))))
noncomputable def laA:Ss:=(.cons (.set 9 (.ix (.v 4) (.v 7))) (.o (.set 5 (.call 39 (.cons (.v 9) (.o (.call 38 (.cons (.v 0) (.o (.ix (.v 8) (.i 0)))))))))))
noncomputable def laM:Ss:=(.cons (.set 10 (.ix (.fld (.v 0) "marks") (.ix (.v 8) (.i 0)))) (.cons (.set 9 (.call 41 (.cons (.ix (.v 5) (.ix (.v 10) (.i 0))) (.o (.ix (.v 10) (.i 1)))))) (.o (.six (.v 5) (.ix (.v 10) (.i 0)) (.call 40 (.cons (.v 9) (.o (.ix (.v 10) (.i 2)))))))))
def laB:Ss:=(.cons (.iff (.cmp .isin (.v 7) (.v 4)) laA laM) (.o (.ex (.mt .append (.v 6) (.o (.v 9))))))
noncomputable def fmE(i:Nat):E:=(.bi .dict (.o (.comp (.nm 0) (.seq (.ix (.v i) (.i 1))) 1 [] .yes (.tup (.cons (.ix (.v 0) (.i 0)) (.o (.sl (.v 0) (.at (.i 1)) .no)))))))
noncomputable def fpE:E:=(.bi .dict (.o (.comp (.tp (.cons (.nm 0) (.cons (.nm 1) (.cons (.nm 2) .nil)))) (.seq (.ix (.v 0) (.i 2))) 3 [] .yes (.tup (.cons (.tup (.cons (.v 0) (.o (.v 1)))) (.o (.v 2)))))))
def ftB:Ss:=(.cons (.set 8 (.ix (.ix (.v 1) (.v 7)) (.i 0))) (.cons (.iff (.cmp .notin (.v 8) (.v 4)) (.cons (.set 9 (.dget (.v 6) (.tup (.cons (.v 8) (.o (.v 5)))) (.tup (.cons (.i 0) (.o (.i 0)))))) (.o (.ret (.tup (.cons (.bin .add (.ix (.ix (.v 2) (.v 7)) (.i 0)) (.ix (.v 9) (.i 0))) (.o (.bin .add (.ix (.ix (.v 2) (.v 7)) (.i 1)) (.ix (.v 9) (.i 1))))))))) .nil) (.o (.iff (.cmp .eq (.ix (.ix (.v 4) (.v 8)) (.i 0)) (.v 5)) (.o (.ret (.tup (.cons (.bin .add (.ix (.ix (.v 2) (.v 7)) (.i 0)) (.ix (.ix (.ix (.v 4) (.v 8)) (.i 2)) (.i 0))) (.o (.bin .add (.ix (.ix (.v 2) (.v 7)) (.i 1)) (.ix (.ix (.ix (.v 4) (.v 8)) (.i 2)) (.i 1)))))))) .nil))))
noncomputable def lwK:E:=(.comp (.nm 0) (.seq (.v 5)) 1 [] .yes (.bi .len (.o (.ix (.v 0) (.i 1)))))
def lwI:Ss:=(.o (.iff (.cmp .isin (.ix (.ix (.v 5) (.v 9)) (.i 0)) (.v 4)) (.cons (.set 10 (.ix (.ix (.v 4) (.ix (.ix (.v 5) (.v 9)) (.i 0))) (.i 1))) (.o (.iff (.cmp .ne (.tup (.cons (.bin .add (.ix (.ix (.v 8) (.v 9)) (.i 0)) (.ix (.v 10) (.i 0))) (.o (.bin .add (.ix (.ix (.v 8) (.v 9)) (.i 1)) (.ix (.v 10) (.i 1)))))) (.call 219 (.cons (.v 1) (.cons (.v 5) (.cons (.v 8) (.o (.v 9))))))) (.o (.ret (.k (.bl false)))) .nil))) .nil))
def lwB:Ss:=(.cons (.set 8 (.call 36 (.cons (.v 2) (.cons (.bi .list (.o (.v 5))) (.cons (.bi .list (.o (.v 6))) (.o (.v 7))))))) (.cons (.iff (.orr (.nt (.val (.isl (.v 8)))) (.cmp .ne (.bi .len (.o (.v 8))) (.bi .len (.o (.v 5))))) (.o (.ret (.k (.bl false)))) .nil) (.o (.for (.nm 9) (.rng1 (.bi .len (.o (.v 5)))) lwI))))
def W9:Fn:=⟨1,1,2,(.o (.ret (.comp (.nm 0) (.seq (.mt .split (.v 0) (.o (.s " ")))) 1 [] (.cmp .ne (.v 0) (.s "")) (.v 0))))⟩
def a0t:Fn:=⟨2,2,1,(.o (.ret (.bi .all (.o (.comp (.nm 0) (.seq (.v 0)) 1 [1] .yes (.bin .isin (.v 0) (.v 1)))))))⟩
noncomputable def a0u:Fn:=⟨1,1,1,(.o (.ret (.an (.chn .le .le (.i 1) (.bi .len (.o (.v 0))) (.i 12)) (.call 2 (.cons (.v 0) (.o (.s "abcdefghijklmnopqrstuvwxyz0123456789")))))))⟩
def T4:Fn:=⟨1,1,1,(.cons (.iff (.orr (.nt (.chn .le .le (.i 1) (.bi .len (.o (.v 0))) (.i 5))) (.nt (.val (.call 2 (.cons (.v 0) (.o (.s "0123456789"))))))) (.o (.ret (.k (.bl false)))) .nil) (.o (.ret (.orr (.bin .eq (.v 0) (.s "0")) (.bin .ne (.ix (.v 0) (.i 0)) (.s "0"))))))⟩
def D1:Fn:=⟨1,1,1,(.cons (.iff (.val (.mt .starts (.v 0) (.o (.s "-")))) (.o (.ret (.an (.bin .ne (.v 0) (.s "-0")) (.call 4 (.o (.sl (.v 0) (.at (.i 1)) .no)))))) .nil) (.o (.ret (.call 4 (.o (.v 0))))))⟩
noncomputable def a0b:Fn:=⟨1,1,1,(.o (.ret (.bi .all (.o (.comp (.nm 0) (.seq (.v 0)) 1 [] .yes (.call 3 (.o (.v 0))))))))⟩
noncomputable def F7:Fn:=⟨1,1,1,(.o (.ret (.bi .all (.o (.comp (.nm 0) (.seq (.v 0)) 1 [] .yes (.call 5 (.o (.v 0))))))))⟩
noncomputable def N2:Fn:=⟨1,1,0,(.cons (.sfl (.v 0) "shapes" .dnew) (.cons (.sfl (.v 0) "marks" .dnew) (.cons (.sfl (.v 0) "points" .dnew) (.cons (.sfl (.v 0) "letters" .dnew) (.cons (.sfl (.v 0) "gaps" (.lst .nil)) (.cons (.sfl (.v 0) "classes" .dnew) (.cons (.sfl (.v 0) "features" .dnew) (.o (.sfl (.v 0) "rules" (.lst .nil))))))))))⟩
def T3:Fn:=⟨1,6,0,(.cons (.set 1 (.mk 6 .nil)) (.cons (.for (.tp (.cons (.nm 2) (.cons (.nm 3) .nil))) (.enum (.mt .split (.v 0) (.o (.s "\n")))) (.cons (.set 4 (.call 1 (.o (.v 3)))) (.o (.iff (.cmp .gt (.bi .len (.o (.v 4))) (.i 0)) (.cons (.set 5 (.call 13 (.cons (.v 1) (.o (.v 4))))) (.o (.iff (.notN (.v 5)) (.o .bad) .nil))) .nil)))) (.o (.ret (.v 1)))))⟩
def D0:Fn:=⟨2,3,0,(.cons (.set 2 (.ix (.v 1) (.i 0))) (.cons (.iff (.cmp .eq (.v 2) (.s "shape")) (.o (.ret (.call 17 (.cons (.v 0) (.o (.v 1)))))) .nil) (.cons (.iff (.cmp .eq (.v 2) (.s "mark")) (.o (.ret (.call 19 (.cons (.v 0) (.o (.v 1)))))) .nil) (.cons (.iff (.cmp .eq (.v 2) (.s "point")) (.o (.ret (.call 20 (.cons (.v 0) (.o (.v 1)))))) .nil) (.cons (.iff (.cmp .eq (.v 2) (.s "letter")) (.o (.ret (.call 22 (.cons (.v 0) (.o (.v 1)))))) .nil) (.cons (.iff (.cmp .eq (.v 2) (.s "gap")) (.o (.ret (.call 23 (.cons (.v 0) (.o (.v 1)))))) .nil) (.cons (.iff (.cmp .eq (.v 2) (.s "class")) (.o (.ret (.call 24 (.cons (.v 0) (.o (.v 1)))))) .nil) (.cons (.iff (.cmp .eq (.v 2) (.s "feature")) (.o (.ret (.call 25 (.cons (.v 0) (.o (.v 1)))))) .nil) (.cons (.iff (.cmp .eq (.v 2) (.s "rule")) (.o .bad) .nil) (.o (.ret (.s "row"))))))))))))⟩
noncomputable def T5:Fn:=⟨3,3,1,(.cons (.iff (.val (.v 0)) (.o (.ret (.s "twice"))) .nil) (.cons (.iff (.nt (.val (.v 1))) (.o (.ret (.s "name"))) .nil) (.cons (.iff (.val (.v 2)) (.o (.ret (.s "many"))) .nil) (.o (.ret (.k .non))))))⟩
def O4:Fn:=⟨2,2,1,(.o (.ret (.bi .all (.o (.comp (.nm 0) (.seq (.v 1)) 1 [0] .yes (.bin .isin (.v 0) (.fld (.v 1) "shapes")))))))⟩
noncomputable def a0r:Fn:=⟨1,1,1,(.o (.ret (.tup (.cons (.bi .int (.o (.ix (.v 0) (.i 0)))) (.o (.bi .int (.o (.ix (.v 0) (.i 1)))))))))⟩
def O1:Fn:=⟨2,4,0,(.cons (.iff (.orr (.cmp .ne (.bi .len (.o (.v 1))) (.i 3)) (.orr (.nt (.val (.call 3 (.o (.ix (.v 1) (.i 1)))))) (.nt (.val (.call 4 (.o (.ix (.v 1) (.i 2)))))))) (.o (.ret (.s "row"))) .nil) (.cons (.set 2 (.ix (.v 1) (.i 1))) (.cons (.set 3 (.call 14 (.cons (.bin .isin (.v 2) (.fld (.v 0) "shapes")) (.cons (.k (.bl true)) (.o (.bin .ge (.bi .len (.o (.fld (.v 0) "shapes"))) (.i 60))))))) (.cons (.iff (.isN (.v 3)) (.o (.six (.fld (.v 0) "shapes") (.v 2) (.bi .int (.o (.ix (.v 1) (.i 2)))))) .nil) (.o (.ret (.v 3)))))))⟩
def J2:Fn:=⟨2,2,1,(.cons (.iff (.orr (.cmp .ne (.bi .len (.o (.v 0))) (.bin .add (.i 3) (.v 1))) (.nt (.val (.call 3 (.o (.ix (.v 0) (.i 1))))))) (.o (.ret (.k (.bl false)))) .nil) (.o (.ret (.an (.gin false (.ix (.v 0) (.i 2)) [(.str "above"),(.str "below")]) (.call 10 (.o (.sl (.v 0) (.at (.i 3)) .no)))))))⟩
def T1:Fn:=⟨2,4,0,(.cons (.iff (.nt (.val (.call 18 (.cons (.v 1) (.o (.i 4)))))) (.o (.ret (.s "row"))) .nil) (.cons (.set 2 (.ix (.v 1) (.i 1))) (.cons (.set 3 (.call 14 (.cons (.bin .isin (.v 2) (.fld (.v 0) "marks")) (.cons (.bin .isin (.v 2) (.fld (.v 0) "shapes")) (.o (.k (.bl false))))))) (.cons (.iff (.isN (.v 3)) (.o (.six (.fld (.v 0) "marks") (.v 2) (.tup (.cons (.ix (.v 1) (.i 2)) (.cons (.call 16 (.o (.sl (.v 1) (.at (.i 3)) (.at (.i 5))))) (.o (.call 16 (.o (.sl (.v 1) (.at (.i 5)) (.at (.i 7))))))))))) .nil) (.o (.ret (.v 3)))))))⟩
def O2:Fn:=⟨2,5,0,(.cons (.iff (.nt (.val (.call 18 (.cons (.v 1) (.o (.i 2)))))) (.o (.ret (.s "row"))) .nil) (.cons (.set 2 (.ix (.v 1) (.i 1))) (.cons (.set 3 (.tup (.cons (.v 2) (.o (.ix (.v 1) (.i 2)))))) (.cons (.set 4 (.call 14 (.cons (.bin .isin (.v 3) (.fld (.v 0) "points")) (.cons (.bin .isin (.v 2) (.fld (.v 0) "shapes")) (.o (.k (.bl false))))))) (.cons (.iff (.isN (.v 4)) (.o (.six (.fld (.v 0) "points") (.v 3) (.call 16 (.o (.sl (.v 1) (.at (.i 3)) (.at (.i 5))))))) .nil) (.o (.ret (.v 4))))))))⟩
def E6:Fn:=⟨1,2,1,(.cons (.iff (.orr (.cmp .lt (.bi .len (.o (.v 0))) (.i 4)) (.nt (.val (.call 3 (.o (.ix (.v 0) (.i 1))))))) (.o (.ret (.k (.bl false)))) .nil) (.cons (.iff (.orr (.val (.gdin true (.ix (.v 0) (.i 2)) [((.str "none"),(.int (1))),((.str "clear"),(.int (1))),((.str "back"),(.int (2))),((.str "both"),(.int (4)))])) (.val (.gin true (.ix (.v 0) (.i 3)) [(.str "left"),(.str "right"),(.str "either")]))) (.o (.ret (.k (.bl false)))) .nil) (.cons (.set 1 (.sl (.v 0) (.at (.i 4)) .no)) (.o (.ret (.an (.bin .eq (.bi .len (.o (.v 1))) (.gdix (.ix (.v 0) (.i 2)) [((.str "none"),(.int (1))),((.str "clear"),(.int (1))),((.str "back"),(.int (2))),((.str "both"),(.int (4)))])) (.call 9 (.o (.v 1)))))))))⟩
def L9:Fn:=⟨2,5,0,(.cons (.iff (.nt (.val (.call 21 (.o (.v 1))))) (.o (.ret (.s "row"))) .nil) (.cons (.set 2 (.ix (.v 1) (.i 1))) (.cons (.set 3 (.sl (.v 1) (.at (.i 4)) .no)) (.cons (.set 4 (.call 14 (.cons (.bin .isin (.v 2) (.fld (.v 0) "letters")) (.cons (.call 15 (.cons (.v 0) (.o (.v 3)))) (.o (.bin .ge (.bi .len (.o (.fld (.v 0) "letters"))) (.i 24))))))) (.cons (.iff (.isN (.v 4)) (.o (.six (.fld (.v 0) "letters") (.v 2) (.tup (.cons (.ix (.v 1) (.i 2)) (.cons (.ix (.v 1) (.i 3)) (.o (.bi .tuple (.o (.v 3))))))))) .nil) (.o (.ret (.v 4))))))))⟩
def X0:Fn:=⟨2,4,0,(.cons (.iff (.orr (.cmp .ne (.bi .len (.o (.v 1))) (.i 2)) (.nt (.val (.call 3 (.o (.ix (.v 1) (.i 1))))))) (.o (.ret (.s "row"))) .nil) (.cons (.set 2 (.ix (.v 1) (.i 1))) (.cons (.set 3 (.call 14 (.cons (.bin .isin (.v 2) (.fld (.v 0) "gaps")) (.cons (.bin .isin (.v 2) (.fld (.v 0) "letters")) (.o (.k (.bl false))))))) (.cons (.iff (.isN (.v 3)) (.o (.ex (.mt .append (.fld (.v 0) "gaps") (.o (.v 2))))) .nil) (.o (.ret (.v 3)))))))⟩
def O3:Fn:=⟨2,5,0,(.cons (.set 2 (.sl (.v 1) (.at (.i 2)) .no)) (.cons (.iff (.orr (.nt (.chn .le .le (.i 1) (.bi .len (.o (.v 2))) (.i 20))) (.nt (.val (.call 9 (.o (.sl (.v 1) (.at (.i 1)) .no)))))) (.o (.ret (.s "row"))) .nil) (.cons (.set 3 (.ix (.v 1) (.i 1))) (.cons (.set 4 (.call 14 (.cons (.bin .isin (.v 3) (.fld (.v 0) "classes")) (.cons (.call 15 (.cons (.v 0) (.o (.v 2)))) (.o (.bin .ge (.bi .len (.o (.fld (.v 0) "classes"))) (.i 20))))))) (.cons (.iff (.isN (.v 4)) (.o (.six (.fld (.v 0) "classes") (.v 3) (.bi .tuple (.o (.v 2))))) .nil) (.o (.ret (.v 4))))))))⟩
def K3:Fn:=⟨2,4,0,(.cons (.iff (.orr (.cmp .ne (.bi .len (.o (.v 1))) (.i 3)) (.orr (.nt (.val (.call 3 (.o (.ix (.v 1) (.i 1)))))) (.val (.gin true (.ix (.v 1) (.i 2)) [(.str "on"),(.str "off")])))) (.o (.ret (.s "row"))) .nil) (.cons (.set 2 (.ix (.v 1) (.i 1))) (.cons (.set 3 (.call 14 (.cons (.bin .isin (.v 2) (.fld (.v 0) "features")) (.cons (.k (.bl true)) (.o (.bin .ge (.bi .len (.o (.fld (.v 0) "features"))) (.i 10))))))) (.cons (.iff (.isN (.v 3)) (.o (.six (.fld (.v 0) "features") (.v 2) (.bin .eq (.ix (.v 1) (.i 2)) (.s "on")))) .nil) (.o (.ret (.v 3)))))))⟩
def F0:Fn:=⟨1,4,2,(.cons (.set 1 (.lst .nil)) (.cons (.set 2 (.k .non)) (.cons (.for (.nm 3) (.seq (.v 0)) hoB) (.o (.ret (.v 1))))))⟩
def G1:Fn:=⟨4,8,2,(.cons (.set 4 (.call 34 (.cons (.v 0) (.cons (.v 1) (.o (.v 2)))))) (.cons soR (.cons (.set 5 (.lst .nil)) (.cons (.for (.tp (.cons (.nm 6) (.cons (.nm 7) .nil))) (.seq (.v 4)) soB) (.o (.ret (.v 5)))))))⟩
def F6:Fn:=⟨3,8,0,(.cons (.set 3 (.call 33 (.o (.v 1)))) (.cons (.set 4 (.lst .nil)) (.cons (.for (.tp (.cons (.nm 5) (.cons (.nm 6) .nil))) (.enum (.v 1)) brB) (.o (.ret (.v 4))))))⟩
def a3b:Fn:=⟨4,11,2,(.cons (.set 4 (.call 37 (.cons (.v 0) (.cons (.v 1) (.o (.call 35 (.cons (.v 0) (.cons (.v 1) (.cons (.v 2) (.o (.v 3))))))))))) (.cons (.set 5 (.call 39 (.cons (.tup (.cons (.i 0) (.o (.i 0)))) (.cons .dnew .nil)))) (.cons (.set 6 (.lst .nil)) (.cons (.for (.tp (.cons (.nm 7) (.cons (.nm 8) .nil))) (.enum (.v 1)) laB) (.o (.ret (.v 6)))))))⟩
def G2:Fn:=⟨3,6,2,(.cons (.set 3 .dnew) (.cons (.set 4 (.i 0)) (.cons (.for (.nm 5) (.seq (.v 2)) bsB) (.o (.ret (.v 3))))))⟩
def J5:Fn:=⟨2,2,2,(.o (.ret (.bi .dict (.o (.comp (.nm 0) (.gsq [(.str "above"),(.str "below")]) 1 [0,1] (.cmp .isin (.tup (.cons (.v 2) (.o (.v 0)))) (.fld (.v 1) "points")) (.tup (.cons (.v 0) (.o (.ix (.fld (.v 1) "points") (.tup (.cons (.v 2) (.o (.v 0)))))))))))))⟩
noncomputable def O7:Fn:=⟨2,2,2,(.o (.ret (.bi .dict (.o (.comp (.nm 0) (.gsq [(.str "above"),(.str "below")]) 1 [1,0] .yes (.tup (.cons (.v 0) (.o (.call 40 (.cons (.v 2) (.o (.dget (.v 1) (.v 0) (.tup (.cons (.i 0) (.o (.i 0))))))))))))))))⟩
def a0R:Fn:=⟨2,2,1,(.o (.ret (.tup (.cons (.bin .add (.ix (.v 0) (.i 0)) (.ix (.v 1) (.i 0))) (.o (.bin .add (.ix (.v 0) (.i 1)) (.ix (.v 1) (.i 1))))))))⟩
def a0s:Fn:=⟨2,2,1,(.o (.ret (.tup (.cons (.bin .sub (.ix (.v 0) (.i 0)) (.ix (.v 1) (.i 0))) (.o (.bin .sub (.ix (.v 0) (.i 1)) (.ix (.v 1) (.i 1))))))))⟩
def w8:Fn:=⟨2,2,1,(.cons (.iff (.cmp .lt (.v 1) (.bi .len (.o (.v 0)))) (.o (.ret (.ix (.v 0) (.v 1)))) .nil) (.o (.ret (.i 0))))⟩
def l0:Fn:=⟨2,2,1,(.o (.ret (.bin .mod (.bin .mul (.bin .mul (.bin .add (.bin .mod (.v 0) (.i 2305843009213693951)) (.i 1)) (.bin .add (.bin .mul (.v 1) (.v 1)) (.i 48271))) (.i 40692)) (.i 2147483399))))⟩
def k7:Fn:=⟨2,7,2,(.cons (.set 2 (.k (.str abc))) (.cons (.set 3 (.bin .mod (.bin .div (.v 0) (.i 4)) (.i 26))) (.cons (.iff (.an (.cmp .eq (.bin .mod (.v 0) (.i 4)) (.i 0)) (.cmp .lt (.v 1) (.i 13))) (.o (.ret cA)) .nil) (.cons (.set 4 (.bin .mod (.bin .div (.v 0) (.i 104)) (.i 12))) (.cons (.set 5 (.bin .mod (.bin .div (.v 0) (.i 1248)) (.bin .add (.v 4) (.i 1)))) (.cons (.set 6 (.mt .join (.s "") (.cons cS .nil))) (.o (.ret cB))))))))⟩
def v8:Fn:=⟨1,6,2,(.cons (.set 1 (.call 202 (.cons (.v 0) (.o (.i 1))))) (.cons (.set 2 (.call 203 (.cons (.bin .div (.v 1) (.i 13)) (.o (.bin .add (.i 4) (.bin .mod (.v 1) (.i 13))))))) (.cons (.set 3 (.lst .nil)) (.cons (.for (.nm 4) (.rng1 (.bi .len (.o (.v 2)))) wB) (.o (.ret (.comp (.tp (.cons (.nm 0) (.cons (.nm 1) .nil))) (.zip (.v 2) (.v 3)) 2 [] .yes (.tup (.cons (.v 0) (.o (.v 1)))))))))))⟩
def t8:Fn:=⟨1,1,1,(.o (.ret (.tup (.cons (.bin .sub (.bin .mod (.v 0) (.i 41)) (.i 20)) (.o (.ix (.lst (.cons (.i 0) (.cons (.bin .mod (.bin .div (.v 0) (.i 41)) (.i 99999)) (.o (.neg (.bin .mod (.bin .div (.v 0) (.i 41)) (.i 99999))))))) (.bin .mod (.bin .div (.v 0) (.i 7)) (.i 3))))))))⟩
def A8:Fn:=⟨2,6,2,(.cons (.set 2 (.lst .nil)) (.cons (.for (.nm 3) (.rng1 (.bi .len (.o (.v 1)))) mkB) (.o (.ret (.v 2)))))⟩
def w5:Fn:=⟨2,6,2,(.cons (.set 2 (.lst .nil)) (.cons (.for (.nm 3) (.rng1 (.bi .len (.o (.v 1)))) ptB) (.o (.ret (.v 2)))))⟩
def u5:Fn:=⟨2,10,2,(.cons (.set 2 (.call 202 (.cons (.v 0) (.o (.i 2))))) (.cons (.set 3 (.call 203 (.cons (.bin .div (.v 2) (.i 6)) (.o (.bin .add (.i 1) (.bin .mod (.v 2) (.i 6))))))) (.cons (.set 4 (.lst .nil)) (.cons (.for (.nm 5) (.rng1 (.bi .len (.o (.v 3)))) lB) (.o (.ret (.v 4)))))))⟩
def u6:Fn:=⟨2,8,2,(.cons (.set 2 (.call 202 (.cons (.v 0) (.o (.i 3))))) (.cons (.set 3 (.lst .nil)) (.cons (.for (.tp (.cons (.nm 4) (.cons (.nm 5) .nil))) (.enum (.call 203 (.cons (.bin .div (.v 2) (.i 4)) (.o (.bin .add (.i 1) (.bin .mod (.v 2) (.i 3))))))) kB) (.o (.ret (.v 3))))))⟩
def z9:Fn:=⟨6,17,2,(.cons (.set 6 (.lst .nil)) (.cons (.for (.tp (.cons (.nm 7) (.cons (.nm 8) .nil))) (.enum (.call 203 (.cons (.call 202 (.cons (.v 0) (.o (.i 4)))) (.o (.v 1))))) (.cons (.set 9 (.call 202 (.cons (.v 0) (.o (.bin .add (.v 7) (.i 160)))))) (.cons (.set 10 (.call 202 (.cons (.v 0) (.o (.bin .add (.v 7) (.i 190)))))) (.cons (.set 11 (.lst (.cons (.ix (.lst (.cons (.i 0) (.cons (.i 0) (.cons (.i 0) (.cons (.i 1) (.cons (.i 2) (.o (.i 3)))))))) (.bin .mod (.v 9) (.i 6))) (.cons (.ix (.lst (.cons (.i 1) (.cons (.i 2) (.cons (.i 1) (.cons (.i 2) (.cons (.i 3) (.cons (.i 4) (.o (.i 1))))))))) (.bin .mod (.bin .div (.v 9) (.i 6)) (.i 7))) (.o (.ix (.lst (.cons (.i 0) (.cons (.i 0) (.cons (.i 0) (.cons (.i 1) (.cons (.i 2) (.o (.i 3)))))))) (.bin .mod (.bin .div (.v 9) (.i 42)) (.i 6)))))))) (.cons .bad (.cons .bad (.cons .bad (.cons (.set 15 (.ix (.lst (.cons (.i 1) (.cons (.i 1) (.cons (.i 1) (.cons (.i 2) (.o (.bin .add (.i 2) (.bi .int (.o (.bin .eq (.v 7) (.i 0))))))))))) (.bin .mod (.bin .div (.v 9) (.i 252)) (.i 5)))) (.cons (.set 16 (.bi .tuple (.o (.comp (.nm 0) (.rng1 (.v 15)) 1 [9,2] .yes (.ix (.ix (.v 2) (.bin .mod (.bin .div (.v 1) (.bin .add (.bin .mul (.v 0) (.i 7)) (.i 3))) (.bi .len (.o (.v 2))))) (.i 0)))))) (.o (.ex (.mt .append (.v 6) (.o (.tup (.cons (.v 8) (.cons (.ix (.ix (.v 5) (.bin .mod (.bin .div (.v 9) (.i 1260)) (.bi .len (.o (.v 5))))) (.i 0)) (.cons (.v 12) (.cons (.v 13) (.cons (.v 14) (.o (.v 16))))))))))))))))))))) (.o (.ret (.v 6)))))⟩
def F9:Fn:=⟨2,12,0,(.cons (.set 2 (.call 201 (.cons (.v 0) (.o (.i 0))))) (.cons (.set 3 (.call 204 (.o (.v 2)))) hB2))⟩
def w6:Fn:=⟨1,1,1,(.o (.ret (.bin .add (.bin .add (.bi .str (.o (.ix (.v 0) (.i 0)))) (.s " ")) (.bi .str (.o (.ix (.v 0) (.i 1)))))))⟩
def V1:Fn:=⟨1,2,1,(.cons (.set 1 (.bin .add (.bin .add (.bin .add (.lst (.cons (.s "rule") (.cons (.ix (.v 0) (.i 0)) (.o (.ix (.v 0) (.i 1)))))) (.bi .list (.o (.ix (.v 0) (.i 2))))) (.lst (.o (.s "/")))) (.bi .list (.o (.ix (.v 0) (.i 3)))))) (.o (.ret (.mt .join (.s " ") (.o (.bin .add (.bin .add (.bin .add (.bin .add (.v 1) (.lst (.o (.s "/")))) (.bi .list (.o (.ix (.v 0) (.i 4))))) (.lst (.o (.s ">")))) (.bi .list (.o (.ix (.v 0) (.i 5))))))))))⟩
def C2:Fn:=⟨1,10,1,(.cons (.set 2 b9f) (.cons (.for (htP 1 3 4 5) (.seq (.ix (.v 0) (.i 1))) b4d) (.cons (.set 2 (.bin .add (.v 2) b9e)) (.cons (.for (htP 1 7 8 9) (.seq (.ix (.v 0) (.i 3))) b4c) (.cons (.set 2 (.bin .add (.v 2) b9d)) (.cons (.set 2 (.bin .add (.v 2) b9c)) (.cons (.set 2 (.bin .add (.v 2) b9b)) (.o (.ret (.mt .join (.s "\n") (.o (.bin .add (.v 2) b9a))))))))))))⟩
def D6:Fn:=⟨3,9,2,(.cons (.set 3 (.lst .nil)) (.cons (.set 4 (.i 0)) (.cons (.for (.tp (.cons (.nm 5) (.cons (.nm 6) .nil))) (.enum (.sl (.v 0) (.at (.v 1)) (.at (.bin .add (.v 1) (.i 50))))) cB1) (.o (.ret (.v 3))))))⟩
def F8:Fn:=⟨2,7,2,(.cons (.set 2 (.lst .nil)) (.cons (.set 3 (.s "left")) (.cons (.set 4 (.call 202 (.cons (.call 201 (.cons (.v 0) (.o (.i 4)))) (.o (.i 9))))) (.cons (.for (.nm 5) (.rng1 (.v 1)) (.cons (.set 6 wyA) (.cons wyB wyC))) (.o (.ret (.v 2)))))))⟩
def J6:Fn:=⟨1,2,1,(.cons (.set 1 (.bin .add (.bin .add (.bin .add (.call 45 (.o (.v 0))) (.call 46 (.o (.v 0)))) (.call 47 (.o (.v 0)))) (.call 48 (.o (.v 0))))) (.cons (.set 1 (.bin .add (.bin .add (.bin .add (.bin .add (.v 1) (.call 49 (.o (.v 0)))) (.call 50 (.o (.v 0)))) (.call 51 (.o (.v 0)))) (.call 52 (.o (.v 0))))) (.o (.ret (.mt .join (.s "\n") (.o (.comp (.nm 0) (.seq (.v 1)) 1 [] .yes (.mt .join (.s " ") (.o (.v 0))))))))))⟩
noncomputable def B8:Fn:=⟨1,1,2,(.o (.ret (.lst (.cons (.bi .str (.o (.ix (.v 0) (.i 0)))) (.o (.bi .str (.o (.ix (.v 0) (.i 1)))))))))⟩
noncomputable def K4:Fn:=⟨1,1,0,(.o (.ret (.compI (.tp (.cons (.nm 0) (.cons (.nm 1) .nil))) (.fld (.v 0) "shapes") 2 [] .yes (.lst (.cons (.s "shape") (.cons (.v 0) (.o (.bi .str (.o (.v 1))))))))))⟩
def M9:Fn:=⟨1,1,0,(.o (.ret (.compI (.tp (.cons (.nm 0) (.cons (.nm 1) .nil))) (.fld (.v 0) "marks") 2 [] .yes (.bin .add (.bin .add (.lst (.cons (.s "mark") (.cons (.v 0) (.o (.ix (.v 1) (.i 0)))))) (.call 44 (.o (.ix (.v 1) (.i 1))))) (.call 44 (.o (.ix (.v 1) (.i 2))))))))⟩
def K5:Fn:=⟨1,1,0,(.o (.ret (.compI (.tp (.cons (.nm 0) (.cons (.nm 1) .nil))) (.fld (.v 0) "points") 2 [] .yes (.bin .add (.lst (.cons (.s "point") (.cons (.ix (.v 0) (.i 0)) (.o (.ix (.v 0) (.i 1)))))) (.call 44 (.o (.v 1)))))))⟩
def I0:Fn:=⟨1,1,0,(.o (.ret (.compI (.tp (.cons (.nm 0) (.cons (.nm 1) .nil))) (.fld (.v 0) "letters") 2 [] .yes (.bin .add (.lst (.cons (.s "letter") (.cons (.v 0) (.cons (.ix (.v 1) (.i 0)) (.o (.ix (.v 1) (.i 1))))))) (.bi .list (.o (.ix (.v 1) (.i 2))))))))⟩
noncomputable def Q8:Fn:=⟨1,1,0,(.o (.ret (.comp (.nm 0) (.seq (.fld (.v 0) "gaps")) 1 [] .yes (.lst (.cons (.s "gap") (.o (.v 0)))))))⟩
def K6:Fn:=⟨1,1,0,(.o (.ret (.compI (.tp (.cons (.nm 0) (.cons (.nm 1) .nil))) (.fld (.v 0) "classes") 2 [] .yes (.bin .add (.lst (.cons (.s "class") (.o (.v 0)))) (.bi .list (.o (.v 1)))))))⟩
noncomputable def F5:Fn:=⟨1,1,0,(.o (.ret (.compI (.tp (.cons (.nm 0) (.cons (.nm 1) .nil))) (.fld (.v 0) "features") 2 [] .yes (.lst (.cons (.s "feature") (.cons (.v 0) (.o (.ife (.val (.v 1)) (.s "on") (.s "off")))))))))⟩
noncomputable def M8:Fn:=⟨1,1,0,(.o (.ret (.comp (.nm 0) (.seq (.fld (.v 0) "rules")) 1 [] .yes (.call 53 (.o (.v 0))))))⟩
def a1o:Fn:=⟨1,2,0,(.cons (.set 1 (.bin .add (.bin .add (.bin .add (.bin .add (.bi .list (.o (.ix (.v 0) (.i 2)))) (.lst (.o (.s "/")))) (.bi .list (.o (.ix (.v 0) (.i 3))))) (.lst (.o (.s "/")))) (.bi .list (.o (.ix (.v 0) (.i 4)))))) (.o (.ret (.bin .add (.bin .add (.bin .add (.lst (.cons (.s "rule") (.cons (.ix (.v 0) (.i 0)) (.o (.ix (.v 0) (.i 1)))))) (.v 1)) (.lst (.o (.s ">")))) (.bi .list (.o (.ix (.v 0) (.i 5))))))))⟩
def N1:Fn:=⟨4,10,1,(.cons (.set 4 (fmE 0)) (.cons (.set 6 fpE) (.cons (.set 5 (.ix (.ix (.v 4) (.ix (.ix (.v 1) (.v 3)) (.i 0))) (.i 0))) (.cons (.for (.nm 7) (.rngD (.bin .sub (.v 3) (.i 1)) (.neg (.i 1))) ftB) (.o (.ret (.tup (.cons (.i 0) (.o (.i 0))))))))))⟩
def a6o:Fn:=⟨1,11,0,(.cons (.set 1 (.call 212 (.cons (.v 0) (.o (.i 0))))) (.cons (.set 2 (.call 12 (.o (.call 215 (.o (.v 1)))))) (.cons (.set 3 (.call 43 (.o (.v 2)))) (.cons (.set 4 (fmE 1)) (.cons (.set 5 (.call 217 (.cons (.v 0) (.cons (.i 5) (.o (.ix (.v 1) (.i 0))))))) (.cons (.set 6 (.call 218 (.cons (.v 0) (.o (.bi .sum (.o lwK)))))) (.cons (.for (.nm 7) (.seq (.lst (.cons (.s "left") (.o (.s "right"))))) lwB) (.o (.ret (.bin .eq (.call 43 (.o (.v 2))) (.v 3)))))))))))⟩
end EV
namespace K40
open PySem L2 EV
noncomputable def top(i:Nat):Stmt:=PySem.Challenge.pw_glyphhall_k40_marks_stacked.main.body.getD i (.Pass ⟨0,0,0,0⟩)
noncomputable def fe(x:Str)(a b:Nat):Str×Nat×Nat:=(x,a,b)
def se(x:Str)(d:D):Str×D:=(x,d)
def fns:List (Str×Nat×Nat):=[fe "words_of" 1 1,fe "made_of" 2 2,fe "is_name" 3 1,fe "is_number" 4 1,fe "is_signed_number" 5 1,fe "all_names" 9 1,fe "all_signed_numbers" 10 1,fe "read_hall" 12 1,fe "take_row" 13 2,fe "first_due" 14 3,fe "has_shapes" 15 2,fe "pair_of" 16 1,fe "take_shape" 17 2,fe "has_side_form" 18 2,fe "take_mark" 19 2,fe "take_point" 20 2,fe "has_letter_form" 21 1,fe "take_letter" 22 2,fe "take_gap" 23 2,fe "take_class" 24 2,fe "take_feature" 25 2,fe "homes_of" 33 1,fe "base_runs" 34 3,fe "seen_order" 35 4,fe "laid" 36 4,fe "base_spots" 37 3,fe "points_of" 38 2,fe "feet_on" 39 2,fe "plus" 40 2,fe "minus" 41 2,fe "hall_text" 43 1,fe "pair_words" 44 1,fe "shape_rows" 45 1,fe "mark_rows" 46 1,fe "point_rows" 47 1,fe "letter_rows" 48 1,fe "gap_rows" 49 1,fe "class_rows" 50 1,fe "feature_rows" 51 1,fe "rule_rows" 52 1,fe "rule_words" 53 1,fe "_law_cell_at" 201 2,fe "_law_mixed" 202 2,fe "_law_names_by" 203 2,fe "_law_shapes_by" 204 1,fe "_law_spot_by" 205 1,fe "_law_marks_by" 206 2,fe "_law_points_by" 207 2,fe "_law_letters_by" 208 2,fe "_law_classes_by" 209 2,fe "_law_rules_by" 211 6,fe "_law_hall_by" 212 2,fe "_law_pair_text" 213 1,fe "_law_rule_text" 214 1,fe "_law_hall_text" 215 1,fe "_law_cells_by" 217 3,fe "_law_ways_by" 218 2,fe "_law_foot" 219 4,fe "law" 222 1]
def G:GT:={
 fn:=fns
 scal:=[se "FIGURES" (.str "0123456789"),se "NAME_SIGNS" (.str "abcdefghijklmnopqrstuvwxyz0123456789"),se "LONGEST_NAME" (.int 12),se "LONGEST_NUMBER" (.int 5),se "MOST_SHAPES" (.int 60),se "MOST_LETTERS" (.int 24),se "MOST_CLASSES" (.int 20),se "MOST_FEATURES" (.int 10),se "MOST_IN_CLASS" (.int 20)]
 tups:=[("SIDES",[.str "above",.str "below"]),("WAYS",[.str "left",.str "right",.str "either"]),("SWITCHES",[.str "on",.str "off"])]
 dicts:=[("SHAPES_OF_JOIN",[(.str "none",.int 1),(.str "clear",.int 1),(.str "back",.int 2),(.str "both",.int 4)])]
 obj:=[("Hall",6)]
 atts:=["shapes","marks","points","letters","gaps","classes","features","rules"]
 blt:=["len","str","int","list","tuple","all","isinstance","range","enumerate","zip","sum","max","reversed","dict"]}
def F(i:Nat):Option Fn:=match i with
 |1=>some W9
 |2=>some a0t
 |3=>some a0u
 |4=>some T4
 |5=>some D1
 |9=>some a0b
 |10=>some F7
 |12=>some T3
 |13=>some D0
 |14=>some T5
 |15=>some O4
 |16=>some a0r
 |17=>some O1
 |18=>some J2
 |19=>some T1
 |20=>some O2
 |21=>some E6
 |22=>some L9
 |23=>some X0
 |24=>some O3
 |25=>some K3
 |33=>some F0
 |34=>some F6
 |35=>some G1
 |36=>some a3b
 |37=>some G2
 |38=>some J5
 |39=>some O7
 |40=>some a0R
 |41=>some a0s
 |43=>some J6
 |44=>some B8
 |45=>some K4
 |46=>some M9
 |47=>some K5
 |48=>some I0
 |49=>some Q8
 |50=>some K6
 |51=>some F5
 |52=>some M8
 |53=>some a1o
 |201=>some w8
 |202=>some l0
 |203=>some k7
 |204=>some v8
 |205=>some t8
 |206=>some A8
 |207=>some w5
 |208=>some u5
 |209=>some u6
 |211=>some z9
 |212=>some F9
 |213=>some w6
 |214=>some V1
 |215=>some C2
 |217=>some D6
 |218=>some F8
 |219=>some N1
 |222=>some a6o
 |32=>some N2
 |_=>none
def ct:CT:=⟨fun _=>32⟩
abbrev SH:Stmt:=b3Y (top 34) 0
theorem bd0{P:List Value->Prop}(h:P []):∀us,us.length=0->P us:=fun us e=>List.eq_nil_of_length_eq_zero e▸h
theorem bdS{P:List Value->Prop}{n:Nat}(h:∀a us,us.length=n->P (a::us)):∀us,us.length=n+1->P us:=fun us e=>by
 cases us with
 |nil=>cases e
 |cons a r=>exact h a r (Nat.succ.inj e)
theorem bd1{P:List Value->Prop}(h:∀a,P [a]):∀us,us.length=1->P us:=bdS fun a=>bd0 (P:=fun l=>P (a::l)) (h a)
theorem bd2{P:List Value->Prop}(h:∀a b,P [a,b]):∀us,us.length=2->P us:=bdS fun a=>bd1 (P:=fun l=>P (a::l)) (h a)
theorem bd3{P:List Value->Prop}(h:∀a b c,P [a,b,c]):∀us,us.length=3->P us:=bdS fun a=>bd2 (P:=fun l=>P (a::l)) (h a)
theorem bd4{P:List Value->Prop}(h:∀a b c d,P [a,b,c,d]):∀us,us.length=4->P us:=bdS fun a=>bd3 (P:=fun l=>P (a::l)) (h a)
theorem bd5{P:List Value->Prop}(h:∀a b c d e,P [a,b,c,d,e]):∀us,us.length=5->P us:=bdS fun a=>bd4 (P:=fun l=>P (a::l)) (h a)
theorem bd6{P:List Value->Prop}(h:∀a b c d e f,P [a,b,c,d,e,f]):∀us,us.length=6->P us:=bdS fun a=>bd5 (P:=fun l=>P (a::l)) (h a)
abbrev Bd(x q:Str)(st:Stmt)(ps:List Str):Prop:=∀(kV doc pm:Value) (an:Option Addr) (cdv ct:Value) (us:List Value),us.length=ps.length->bindArgs (PySem.W.fnOf x q (T6 st) (M0 st) (o8 st) .none kV doc pm an cdv ct) ⟨us,[]⟩=pure (ps.zip us)
def pO(st:Stmt):List Str:=(T6 st).args.map (·.arg)
def nO(st:Stmt):List Str:=pO st++((o8 st).names.filter fun y=>(y.2==.local||y.2==.cell)&&!(pO st).contains y.1).map (·.1)
structure Rw(x:Str)(st:Stmt)(id np:Nat)(f:Fn):Prop where
 a:FnScope (nO st) (pO st) (o8 st)
 b:Bd x x st (pO st)
 p:(pO st).length=np
 i:F id=some f
 q:f.np=np
 s:f.ns=(nO st).length
 c:cSs G (nO st) (o8 st) 20 (M0 st)=some f.body
local macro_rules | `(tactic| ac_rfl) => `(tactic| exact ⟨⟨rfl, rfl, rfl, by decide +kernel, by kernel_rfl, by decide +kernel, by decide +kernel⟩, fun _ _ _ _ _ _ => by first | exact bd1 fun _ => rfl | exact bd2 fun _ _ => rfl | exact bd3 fun _ _ _ => rfl | exact bd4 fun _ _ _ _ => rfl | exact bd5 fun _ _ _ _ _ => rfl | exact bd6 fun _ _ _ _ _ _ => rfl, by kernel_rfl, rfl, rfl, by kernel_rfl, by kernel_rfl⟩)
theorem R1:Rw "words_of" (top 9) 1 1 W9:=by ac_rfl
theorem R2:Rw "made_of" (top 10) 2 2 a0t:=by ac_rfl
theorem R3:Rw "is_name" (top 11) 3 1 a0u:=by ac_rfl
theorem R4:Rw "is_number" (top 12) 4 1 T4:=by ac_rfl
theorem R5:Rw "is_signed_number" (top 13) 5 1 D1:=by ac_rfl
theorem R9:Rw "all_names" (top 17) 9 1 a0b:=by ac_rfl
theorem R10:Rw "all_signed_numbers" (top 18) 10 1 F7:=by ac_rfl
theorem R12:Rw "read_hall" (top 35) 12 1 T3:=by ac_rfl
theorem R13:Rw "take_row" (top 36) 13 2 D0:=by ac_rfl
theorem R14:Rw "first_due" (top 37) 14 3 T5:=by ac_rfl
theorem R15:Rw "has_shapes" (top 38) 15 2 O4:=by ac_rfl
theorem R16:Rw "pair_of" (top 39) 16 1 a0r:=by ac_rfl
theorem R17:Rw "take_shape" (top 40) 17 2 O1:=by ac_rfl
theorem R18:Rw "has_side_form" (top 41) 18 2 J2:=by ac_rfl
theorem R19:Rw "take_mark" (top 42) 19 2 T1:=by ac_rfl
theorem R20:Rw "take_point" (top 43) 20 2 O2:=by ac_rfl
theorem R21:Rw "has_letter_form" (top 44) 21 1 E6:=by ac_rfl
theorem R22:Rw "take_letter" (top 45) 22 2 L9:=by ac_rfl
theorem R23:Rw "take_gap" (top 46) 23 2 X0:=by ac_rfl
theorem R24:Rw "take_class" (top 47) 24 2 O3:=by ac_rfl
theorem R25:Rw "take_feature" (top 48) 25 2 K3:=by ac_rfl
theorem R33:Rw "homes_of" (top 56) 33 1 F0:=by ac_rfl
theorem R34:Rw "base_runs" (top 59) 34 3 F6:=by ac_rfl
theorem R35:Rw "seen_order" (top 58) 35 4 G1:=by ac_rfl
theorem R36:Rw "laid" (top 61) 36 4 a3b:=by ac_rfl
theorem R37:Rw "base_spots" (top 62) 37 3 G2:=by ac_rfl
theorem R38:Rw "points_of" (top 63) 38 2 J5:=by ac_rfl
theorem R39:Rw "feet_on" (top 64) 39 2 O7:=by ac_rfl
theorem R40:Rw "plus" (top 65) 40 2 a0R:=by ac_rfl
theorem R41:Rw "minus" (top 66) 41 2 a0s:=by ac_rfl
theorem R43:Rw "hall_text" (top 68) 43 1 J6:=by ac_rfl
theorem R44:Rw "pair_words" (top 69) 44 1 B8:=by ac_rfl
theorem R45:Rw "shape_rows" (top 70) 45 1 K4:=by ac_rfl
theorem R46:Rw "mark_rows" (top 71) 46 1 M9:=by ac_rfl
theorem R47:Rw "point_rows" (top 72) 47 1 K5:=by ac_rfl
theorem R48:Rw "letter_rows" (top 73) 48 1 I0:=by ac_rfl
theorem R49:Rw "gap_rows" (top 74) 49 1 Q8:=by ac_rfl
theorem R50:Rw "class_rows" (top 75) 50 1 K6:=by ac_rfl
theorem R51:Rw "feature_rows" (top 76) 51 1 F5:=by ac_rfl
theorem R52:Rw "rule_rows" (top 77) 52 1 M8:=by ac_rfl
theorem R53:Rw "rule_words" (top 78) 53 1 a1o:=by ac_rfl
theorem c1R:Rw "_law_cell_at" (top 80) 201 2 w8:=by ac_rfl
theorem c1Q:Rw "_law_mixed" (top 81) 202 2 l0:=by ac_rfl
theorem c1P:Rw "_law_names_by" (top 82) 203 2 k7:=by ac_rfl
theorem c1O:Rw "_law_shapes_by" (top 83) 204 1 v8:=by ac_rfl
theorem c1N:Rw "_law_spot_by" (top 84) 205 1 t8:=by ac_rfl
theorem c1M:Rw "_law_marks_by" (top 85) 206 2 A8:=by ac_rfl
theorem c1L:Rw "_law_points_by" (top 86) 207 2 w5:=by ac_rfl
theorem c1K:Rw "_law_letters_by" (top 87) 208 2 u5:=by ac_rfl
theorem c1J:Rw "_law_classes_by" (top 88) 209 2 u6:=by ac_rfl
theorem c1I:Rw "_law_rules_by" (top 90) 211 6 z9:=by ac_rfl
theorem c1H:Rw "_law_hall_by" (top 91) 212 2 F9:=by ac_rfl
theorem c1G:Rw "_law_pair_text" (top 92) 213 1 w6:=by ac_rfl
theorem c1F:Rw "_law_rule_text" (top 93) 214 1 V1:=by ac_rfl
theorem c1E:Rw "_law_hall_text" (top 94) 215 1 C2:=by ac_rfl
theorem c1D:Rw "_law_cells_by" (top 95) 217 3 D6:=by ac_rfl
theorem c1C:Rw "_law_ways_by" (top 96) 218 2 F8:=by ac_rfl
theorem c1B:Rw "_law_foot" (top 97) 219 4 N1:=by ac_rfl
theorem a5z:Rw "law" (top 98) 222 1 a6o:=by ac_rfl
theorem AH:FnScope ["self"] ["self"] (o8 SH):=⟨rfl,rfl,rfl,by decide+kernel,rfl,by decide+kernel,by decide+kernel⟩
theorem BH:Bd "__init__" "Hall.__init__" SH ["self"]:=fun _ _ _ _ _ _=>bd1 fun _=>rfl
theorem CH:cSs G ["self"] (o8 SH) 20 (M0 SH)=some N2.body:=by kernel_rfl
open PySem.W (nsIn codeIn keepIn findIn)
section
variable{K:PySem.W.Frag}{x:Str}
structure DfE(K:PySem.W.Frag)(x:Str)(st:Stmt):Prop where
 ex:∃f fd,nsIn K mainGlobals x=some (~~~f)/\Fun K x x st f fd
theorem b9n{st:Stmt}{f:Addr}{oc:Value}{od an:Option Addr}{osl:Array (Option Value)}{kV doc pm cdv ct:Value}(e1:nsIn K mainGlobals x=some (~~~f))(e2:K.lookup f=some ⟨oc,od,.func (PySem.W.fnOf x x (T6 st) (M0 st) (o8 st) .none kV doc pm an cdv ct),osl⟩)(e3:codeIn K cdv x=true)(e4:keepIn K (.ref f)=true):DfE K x st:=⟨f,_,e1,b1L e2 e3 e4⟩
structure StrE(K:PySem.W.Frag)(x y:Str):Prop where
 ex:∃t,nsIn K mainGlobals x=some (some (.str y t))
theorem b5A{y:Str}{t:Tok}(e1:nsIn K mainGlobals x=some (some (.str y t))):StrE K x y:=⟨t,e1⟩
structure IntE(K:PySem.W.Frag)(x:Str)(i:Int):Prop where
 ex:∃t,nsIn K mainGlobals x=some (some (.int i t))
theorem b6M{i:Int}{t:Tok}(e1:nsIn K mainGlobals x=some (some (.int i t))):IntE K x i:=⟨t,e1⟩
structure TupE(K:PySem.W.Frag)(x:Str)(vs:List V):Prop where
 ex:∃a,nsIn K mainGlobals x=some (~~~a)/\∀H,SqT K H a vs
theorem b2J{a:Addr}{d:Option Addr}{n:Nat}{sl:Array (Option Value)}{y z:Str}{t u:Tok}(e1:nsIn K mainGlobals x=some (~~~a))(e2:K.lookup a=some ⟨.type "tuple",d,.seq #[.str y t,.str z u] n,sl⟩):TupE K x [.str y,.str z]:=
 ⟨a,e1,fun H=>.inr ⟨_,_,_,e2,rfl,rfl,by show 2<=sizeLine;decide,.cons ⟨_,rfl⟩ (.cons ⟨_,rfl⟩ .nil)⟩⟩
theorem b2I{a:Addr}{d:Option Addr}{n:Nat}{sl:Array (Option Value)}{y z v:Str}{t u r:Tok}(e1:nsIn K mainGlobals x=some (~~~a))(e2:K.lookup a=some ⟨.type "tuple",d,.seq #[.str y t,.str z u,.str v r] n,sl⟩):TupE K x [.str y,.str z,.str v]:=
 ⟨a,e1,fun H=>.inr ⟨_,_,_,e2,rfl,rfl,by show 3<=sizeLine;decide,.cons ⟨_,rfl⟩ (.cons ⟨_,rfl⟩ (.cons ⟨_,rfl⟩ .nil))⟩⟩
structure DicE(K:PySem.W.Frag)(P:Program)(w:World)(x:Str)(gs:List (Key×V)):Prop where
 ex:∃a,nsIn K mainGlobals x=some (~~~a)/\a9F P w K a gs
theorem b4J{P:Program}{w:World}{a:Addr}{ep:Nat}{h1 h2 h3 h4:Int}{y1 y2 y3 y4:Str}{i1 i2 i3 i4:Int}{t1 t2 t3 t4 u1 u2 u3 u4:Tok}(e1:nsIn K mainGlobals x=some (~~~a))
 (e2:K.lookup a=some ⟨.type "dict",none,.dict #[⟨h1,.str y1 t1,.int i1 u1⟩,⟨h2,.str y2 t2,.int i2 u2⟩,⟨h3,.str y3 t3,.int i3 u3⟩,⟨h4,.str y4 t4,.int i4 u4⟩] ep,#[]⟩) (ha:(a==sysModules)=false)
 (q1:h1=hashStr w y1) (q2:h2=hashStr w y2) (q3:h3=hashStr w y3) (q4:h4=hashStr w y4) (nd:([.inr y1,.inr y2,.inr y3,.inr y4]:List Key).Nodup):DicE K P w x [(.inr y1,.int i1),(.inr y2,.int i2),(.inr y3,.int i3),(.inr y4,.int i4)]:=by
 refine⟨a,e1,ha,[(.inr y1,.int i1 u1),(.inr y2,.int i2 u2),(.inr y3,.int i3 u3),(.inr y4,.int i4 u4)],?_,fun h kin=>⟨_,_,_,kin a _ e2,⟨rfl,rfl,rfl⟩,rfl,?_,?_,nd⟩⟩
 · exact .cons ⟨rfl,_,rfl⟩ (.cons ⟨rfl,_,rfl⟩ (.cons ⟨rfl,_,rfl⟩ (.cons ⟨rfl,_,rfl⟩ .nil)))
 · intro e he;simp only[List.mem_toArray,aE,not_mem_nil,or_false] at he
   rcases he with rfl|rfl|rfl|rfl
   · exact⟨.inr y1,strKind_is P w y1 t1,q1⟩
   · exact⟨.inr y2,strKind_is P w y2 t2,q2⟩
   · exact⟨.inr y3,strKind_is P w y3 t3,q3⟩
   · exact⟨.inr y4,strKind_is P w y4 t4,q4⟩
 · exact .cons (strKind_is P w y1 t1) rfl (.cons (strKind_is P w y2 t2) rfl (.cons (strKind_is P w y3 t3) rfl (.cons (strKind_is P w y4 t4) rfl .nil)))
structure HallE(K:PySem.W.Frag)(C:Addr):Prop where
 ex:∃f fd,Mk K C f/\Fun K "__init__" "Hall.__init__" SH f fd
theorem b4h{C f:Addr}{oc:Value}{od an:Option Addr}{osl:Array (Option Value)}{kV doc pm cdv ct:Value}(m1:PySem.W.makesIn K C=true)(m2:findIn K (.ref C) "__init__"=some (~~~f))(m3:PySem.W.isFn K (.ref f)=true)(m4:keepIn K (.ref C)=true)
 (e2:K.lookup f=some ⟨oc,od,.func (PySem.W.fnOf "__init__" "Hall.__init__" (T6 SH) (M0 SH) (o8 SH) .none kV doc pm an cdv ct),osl⟩) (e3:codeIn K cdv "Hall.__init__"=true) (e4:keepIn K (.ref f)=true):HallE K C:=⟨f,_,⟨m1,m2,m3,m4⟩,b1L e2 e3 e4⟩
end
theorem Q5{α:Type}{x y:Str}{a b:α}{l:List (Str×α)}(h:((y,a)::l).lookup x=some b):(x=y/\a=b)∨l.lookup x=some b:=by
 rw[lookup_cons] at h
 split at h
 · rename_i e;exact .inl ⟨eq_of_beq e,ax h⟩
 · exact .inr h
theorem a6f{α:Type}{x:Str}{b:α}(h:([]:List (Str×α)).lookup x=some b):False:=by simp at h
section
variable{K:PySem.W.Frag}{P:Program}{w:World}{h:Heap}{mg:Str->Option Value}
theorem row{x:Str}{st:Stmt}{id np:Nat}{fn:Fn}(X:K.In h)(Gg:h.Ns mainGlobals mg)(d:DfE K x st)(R:Rw x st id np fn):∃f fd st N ps,mg x= ~~~f/\RowOk K G F x x id np f fd st N ps:=by
 obtain⟨f,fd,e,F⟩:=d.ex;exact⟨f,fd,st,_,_,PySem.W.mg_of X Gg e,F,R.a,F.binds R.b,R.p,fn,R.i,R.q,R.s,R.c⟩
def a5y(K:PySem.W.Frag)(mg:Str->Option Value):List (Str×Nat×Nat)->Prop
 |[]=>True
 |p::l=>(∃f fd st N ps,mg p.1= ~~~f/\RowOk K G F p.1 p.1 p.2.1 p.2.2 f fd st N ps)/\a5y K mg l
theorem f7{p:Str×Nat×Nat}{l:List (Str×Nat×Nat)}(h:∃f fd st N ps,mg p.1= ~~~f/\RowOk K G F p.1 p.1 p.2.1 p.2.2 f fd st N ps)(r:a5y K mg l):a5y K mg (p::l):=⟨h,r⟩
theorem a7K:∀{l:List (Str×Nat×Nat)},a5y K mg l->∀x id np,l.lookup x=some (id,np)->∃f fd st N ps,mg x= ~~~f/\RowOk K G F x x id np f fd st N ps
 |[],_,x,id,np,h=>(a6f h).elim
 |(y,a,b)::l,r,x,id,np,h=>by
  rcases Q5 h with⟨rfl,e⟩|h
  · cases e;exact r.1
  · exact a7K r.2 x id np h
variable{c6:Addr}(k6:nsIn K mainGlobals "Hall"=some (~~~c6))(f1:DfE K "words_of" (top 9))(f2:DfE K "made_of" (top 10))(f3:DfE K "is_name" (top 11))(f4:DfE K "is_number" (top 12))(f5:DfE K "is_signed_number" (top 13))(f9:DfE K "all_names" (top 17))(f10:DfE K "all_signed_numbers" (top 18))(f12:DfE K "read_hall" (top 35))(f13:DfE K "take_row" (top 36))(f14:DfE K "first_due" (top 37))(f15:DfE K "has_shapes" (top 38))(f16:DfE K "pair_of" (top 39))(f17:DfE K "take_shape" (top 40))(f18:DfE K "has_side_form" (top 41))(f19:DfE K "take_mark" (top 42))(f20:DfE K "take_point" (top 43))(f21:DfE K "has_letter_form" (top 44))(f22:DfE K "take_letter" (top 45))(f23:DfE K "take_gap" (top 46))(f24:DfE K "take_class" (top 47))(f25:DfE K "take_feature" (top 48))(f33:DfE K "homes_of" (top 56))(f34:DfE K "base_runs" (top 59))(f35:DfE K "seen_order" (top 58))(f36:DfE K "laid" (top 61))(f37:DfE K "base_spots" (top 62))(f38:DfE K "points_of" (top 63))(f39:DfE K "feet_on" (top 64))(f40:DfE K "plus" (top 65))(f41:DfE K "minus" (top 66))(f43:DfE K "hall_text" (top 68))(f44:DfE K "pair_words" (top 69))(f45:DfE K "shape_rows" (top 70))(f46:DfE K "mark_rows" (top 71))(f47:DfE K "point_rows" (top 72))(f48:DfE K "letter_rows" (top 73))(f49:DfE K "gap_rows" (top 74))(f50:DfE K "class_rows" (top 75))(f51:DfE K "feature_rows" (top 76))(f52:DfE K "rule_rows" (top 77))(f53:DfE K "rule_words" (top 78))(f201:DfE K "_law_cell_at" (top 80))(f202:DfE K "_law_mixed" (top 81))(f203:DfE K "_law_names_by" (top 82))(f204:DfE K "_law_shapes_by" (top 83))(f205:DfE K "_law_spot_by" (top 84))(f206:DfE K "_law_marks_by" (top 85))(f207:DfE K "_law_points_by" (top 86))(f208:DfE K "_law_letters_by" (top 87))(f209:DfE K "_law_classes_by" (top 88))(f211:DfE K "_law_rules_by" (top 90))(f212:DfE K "_law_hall_by" (top 91))(f213:DfE K "_law_pair_text" (top 92))(f214:DfE K "_law_rule_text" (top 93))(f215:DfE K "_law_hall_text" (top 94))(f217:DfE K "_law_cells_by" (top 95))(f218:DfE K "_law_ways_by" (top 96))(f219:DfE K "_law_foot" (top 97))(f222:DfE K "law" (top 98))(c_FIGURES:StrE K "FIGURES" "0123456789")(c_NAME_SIGNS:StrE K "NAME_SIGNS" "abcdefghijklmnopqrstuvwxyz0123456789")(c_LONGEST_NAME:IntE K "LONGEST_NAME" 12)(c_LONGEST_NUMBER:IntE K "LONGEST_NUMBER" 5)(c_MOST_SHAPES:IntE K "MOST_SHAPES" 60)(c_MOST_LETTERS:IntE K "MOST_LETTERS" 24)(c_MOST_CLASSES:IntE K "MOST_CLASSES" 20)(c_MOST_FEATURES:IntE K "MOST_FEATURES" 10)(c_MOST_IN_CLASS:IntE K "MOST_IN_CLASS" 20)(t_SIDES:TupE K "SIDES" [.str "above",.str "below"])(t_SWITCHES:TupE K "SWITCHES" [.str "on",.str "off"])(t_WAYS:TupE K "WAYS" [.str "left",.str "right",.str "either"])(dJ:DicE K P w "SHAPES_OF_JOIN" [(.inr "none",.int 1),(.inr "clear",.int 1),(.inr "back",.int 2),(.inr "both",.int 4)])(hall:HallE K c6)(cl:Cls K c6)(n_shapes:findIn K (.ref c6) "shapes"=some none)(n_marks:findIn K (.ref c6) "marks"=some none)(n_points:findIn K (.ref c6) "points"=some none)(n_letters:findIn K (.ref c6) "letters"=some none)(n_gaps:findIn K (.ref c6) "gaps"=some none)(n_classes:findIn K (.ref c6) "classes"=some none)(n_features:findIn K (.ref c6) "features"=some none)(n_rules:findIn K (.ref c6) "rules"=some none)(b_len:nsIn K mainGlobals "len"=some none)(b_str:nsIn K mainGlobals "str"=some none)(b_int:nsIn K mainGlobals "int"=some none)(b_list:nsIn K mainGlobals "list"=some none)(b_tuple:nsIn K mainGlobals "tuple"=some none)(b_all:nsIn K mainGlobals "all"=some none)(b_isinstance:nsIn K mainGlobals "isinstance"=some none)(b_range:nsIn K mainGlobals "range"=some none)(b_enumerate:nsIn K mainGlobals "enumerate"=some none)(b_zip:nsIn K mainGlobals "zip"=some none)(b_sum:nsIn K mainGlobals "sum"=some none)(b_max:nsIn K mainGlobals "max"=some none)(b_reversed:nsIn K mainGlobals "reversed"=some none)(b_dict:nsIn K mainGlobals "dict"=some none)
include k6 f1 f2 f3 f4 f5 f9 f10 f12 f13 f14 f15 f16 f17 f18 f19 f20 f21 f22 f23 f24 f25 f33 f34 f35 f36 f37 f38 f39 f40 f41 f43 f44 f45 f46 f47 f48 f49 f50 f51 f52 f53 f201 f202 f203 f204 f205 f206 f207 f208 f209 f211 f212 f213 f214 f215 f217 f218 f219 f222 c_FIGURES c_NAME_SIGNS c_LONGEST_NAME c_LONGEST_NUMBER c_MOST_SHAPES c_MOST_LETTERS c_MOST_CLASSES c_MOST_FEATURES c_MOST_IN_CLASS t_SIDES t_SWITCHES t_WAYS dJ hall cl n_shapes n_marks n_points n_letters n_gaps n_classes n_features n_rules b_len b_str b_int b_list b_tuple b_all b_isinstance b_range b_enumerate b_zip b_sum b_max b_reversed b_dict
theorem b2W(X:K.In h)(Gg:h.Ns mainGlobals mg):Stat P w ⟨K,fun _=>c6,[6],[]⟩ G ct F mg where
 scal:=fun x d hx=>by
  have S:∀{x y:Str},StrE K x y->∃u v,mg x=some u/\f6 v u/\∀m H,Rp m H (.str y) v:=fun e=>by
   obtain⟨t,e⟩:=e.ex;exact⟨_,.str _,PySem.W.mg_of X Gg e,⟨t,rfl⟩,fun _ _=>rfl⟩
  have I:∀{x:Str} {i:Int},IntE K x i->∃u v,mg x=some u/\f6 v u/\∀m H,Rp m H (.int i) v:=fun e=>by
   obtain⟨t,e⟩:=e.ex;exact⟨_,.int _,PySem.W.mg_of X Gg e,⟨t,rfl⟩,fun _ _=>rfl⟩
  unfold G se at hx
  simp only at hx
  rcases Q5 hx with⟨rfl,rfl⟩|hx
  · exact S c_FIGURES
  rcases Q5 hx with⟨rfl,rfl⟩|hx
  · exact S c_NAME_SIGNS
  rcases Q5 hx with⟨rfl,rfl⟩|hx
  · exact I c_LONGEST_NAME
  rcases Q5 hx with⟨rfl,rfl⟩|hx
  · exact I c_LONGEST_NUMBER
  rcases Q5 hx with⟨rfl,rfl⟩|hx
  · exact I c_MOST_SHAPES
  rcases Q5 hx with⟨rfl,rfl⟩|hx
  · exact I c_MOST_LETTERS
  rcases Q5 hx with⟨rfl,rfl⟩|hx
  · exact I c_MOST_CLASSES
  rcases Q5 hx with⟨rfl,rfl⟩|hx
  · exact I c_MOST_FEATURES
  rcases Q5 hx with⟨rfl,rfl⟩|hx
  · exact I c_MOST_IN_CLASS
  exact(a6f hx).elim
 tups:=fun x ds hx=>by
  unfold G at hx
  simp only at hx
  rcases Q5 hx with⟨rfl,rfl⟩|hx
  · obtain⟨a,e,s⟩:=t_SIDES.ex;exact⟨a,_,PySem.W.mg_of X Gg e,s,fun _ _=>⟨.str "above",_,rfl,rfl,⟨.str "below",_,rfl,rfl,rfl⟩⟩⟩
  rcases Q5 hx with⟨rfl,rfl⟩|hx
  · obtain⟨a,e,s⟩:=t_WAYS.ex;exact⟨a,_,PySem.W.mg_of X Gg e,s,fun _ _=>⟨.str "left",_,rfl,rfl,⟨.str "right",_,rfl,rfl,⟨.str "either",_,rfl,rfl,rfl⟩⟩⟩⟩
  rcases Q5 hx with⟨rfl,rfl⟩|hx
  · obtain⟨a,e,s⟩:=t_SWITCHES.ex;exact⟨a,_,PySem.W.mg_of X Gg e,s,fun _ _=>⟨.str "on",_,rfl,rfl,⟨.str "off",_,rfl,rfl,rfl⟩⟩⟩
  exact(a6f hx).elim
 dicts:=fun x kvs hx=>by
  unfold G at hx
  simp only at hx
  rcases Q5 hx with⟨rfl,rfl⟩|hx
  · obtain⟨a,e,d⟩:=dJ.ex;exact⟨a,_,PySem.W.mg_of X Gg e,d,fun _ _=>.cons ⟨rfl,rfl⟩ (.cons ⟨rfl,rfl⟩ (.cons ⟨rfl,rfl⟩ (.cons ⟨rfl,rfl⟩ .nil)))⟩
  exact(a6f hx).elim
 blt:=fun x hx=>by
  rw[List.contains_iff_mem] at hx;unfold G at hx;simp only[aE,not_mem_nil,or_false] at hx
  rcases hx with rfl|rfl|rfl|rfl|rfl|rfl|rfl|rfl|rfl|rfl|rfl|rfl|rfl|rfl
  · exact PySem.W.ns_none_of X Gg b_len
  · exact PySem.W.ns_none_of X Gg b_str
  · exact PySem.W.ns_none_of X Gg b_int
  · exact PySem.W.ns_none_of X Gg b_list
  · exact PySem.W.ns_none_of X Gg b_tuple
  · exact PySem.W.ns_none_of X Gg b_all
  · exact PySem.W.ns_none_of X Gg b_isinstance
  · exact PySem.W.ns_none_of X Gg b_range
  · exact PySem.W.ns_none_of X Gg b_enumerate
  · exact PySem.W.ns_none_of X Gg b_zip
  · exact PySem.W.ns_none_of X Gg b_sum
  · exact PySem.W.ns_none_of X Gg b_max
  · exact PySem.W.ns_none_of X Gg b_reversed
  · exact PySem.W.ns_none_of X Gg b_dict
 fn:=fun x id np hx=>a7K (l:=fns) (f7 (row X Gg f1 R1) (f7 (row X Gg f2 R2) (f7 (row X Gg f3 R3) (f7 (row X Gg f4 R4) (f7 (row X Gg f5 R5) (f7 (row X Gg f9 R9) (f7 (row X Gg f10 R10) (f7 (row X Gg f12 R12) (f7 (row X Gg f13 R13) (f7 (row X Gg f14 R14) (f7 (row X Gg f15 R15) (f7 (row X Gg f16 R16) (f7 (row X Gg f17 R17) (f7 (row X Gg f18 R18) (f7 (row X Gg f19 R19) (f7 (row X Gg f20 R20) (f7 (row X Gg f21 R21) (f7 (row X Gg f22 R22) (f7 (row X Gg f23 R23) (f7 (row X Gg f24 R24) (f7 (row X Gg f25 R25) (f7 (row X Gg f33 R33) (f7 (row X Gg f34 R34) (f7 (row X Gg f35 R35) (f7 (row X Gg f36 R36) (f7 (row X Gg f37 R37) (f7 (row X Gg f38 R38) (f7 (row X Gg f39 R39) (f7 (row X Gg f40 R40) (f7 (row X Gg f41 R41) (f7 (row X Gg f43 R43) (f7 (row X Gg f44 R44) (f7 (row X Gg f45 R45) (f7 (row X Gg f46 R46) (f7 (row X Gg f47 R47) (f7 (row X Gg f48 R48) (f7 (row X Gg f49 R49) (f7 (row X Gg f50 R50) (f7 (row X Gg f51 R51) (f7 (row X Gg f52 R52) (f7 (row X Gg f53 R53) (f7 (row X Gg f201 c1R) (f7 (row X Gg f202 c1Q) (f7 (row X Gg f203 c1P) (f7 (row X Gg f204 c1O) (f7 (row X Gg f205 c1N) (f7 (row X Gg f206 c1M) (f7 (row X Gg f207 c1L) (f7 (row X Gg f208 c1K) (f7 (row X Gg f209 c1J) (f7 (row X Gg f211 c1I) (f7 (row X Gg f212 c1H) (f7 (row X Gg f213 c1G) (f7 (row X Gg f214 c1F) (f7 (row X Gg f215 c1E) (f7 (row X Gg f217 c1D) (f7 (row X Gg f218 c1C) (f7 (row X Gg f219 c1B) (f7 (row X Gg f222 a5z) (True.intro)))))))))))))))))))))))))))))))))))))))))))))))))))))))))))) x id np hx
 obj:=fun x k hx=>by
  unfold G at hx
  simp only at hx
  rcases Q5 hx with⟨rfl,rfl⟩|hx
  · obtain⟨f,fd,M,F⟩:=hall.ex;exact⟨by simp,PySem.W.mg_of X Gg k6,f,fd,SH,["self"],["self"],"Hall.__init__",M,F,AH,F.binds BH,rfl,N2,rfl,rfl,rfl,CH⟩
  exact(a6f hx).elim
 att:=fun k hk=>by
  refine⟨cl,fun f hf=>?_⟩
  rw[List.contains_iff_mem] at hf;unfold G at hf;simp only[aE,not_mem_nil,or_false] at hf
  rcases hf with rfl|rfl|rfl|rfl|rfl|rfl|rfl|rfl
  · exact n_shapes
  · exact n_marks
  · exact n_points
  · exact n_letters
  · exact n_gaps
  · exact n_classes
  · exact n_features
  · exact n_rules
theorem b2X:∃cA,DfE K "law" (top 98)/\∀{h:Heap} {mg:Str->Option Value},K.In h->h.Ns mainGlobals mg->Stat P w ⟨K,cA,[6],[]⟩ G ct F mg:=⟨_,f222,fun X Gg=>b2W k6 f1 f2 f3 f4 f5 f9 f10 f12 f13 f14 f15 f16 f17 f18 f19 f20 f21 f22 f23 f24 f25 f33 f34 f35 f36 f37 f38 f39 f40 f41 f43 f44 f45 f46 f47 f48 f49 f50 f51 f52 f53 f201 f202 f203 f204 f205 f206 f207 f208 f209 f211 f212 f213 f214 f215 f217 f218 f219 f222 c_FIGURES c_NAME_SIGNS c_LONGEST_NAME c_LONGEST_NUMBER c_MOST_SHAPES c_MOST_LETTERS c_MOST_CLASSES c_MOST_FEATURES c_MOST_IN_CLASS t_SIDES t_SWITCHES t_WAYS dJ hall cl n_shapes n_marks n_points n_letters n_gaps n_classes n_features n_rules b_len b_str b_int b_list b_tuple b_all b_isinstance b_range b_enumerate b_zip b_sum b_max b_reversed b_dict X Gg⟩
end
open PyProof.Rows hiding St
theorem b7W{l:PySem.W.OpenLaw}{n k:Nat}{q:Program}{loose:List Str}{XP:(Str->Option Value)->Heap->Prop}{YP:World->Heap->Prop}{d:DefRec}{K:Params->PySem.W.Frag}{CX:World->CXT}{sp:PySem.W.Frag->Sp}{x:Str}
 (hn:l.most=some n) (hn2:n<=sizeLine) (hdf:d.params.defaults=[]) (hr:Room k callerA)
 (hY:∀(w:World) (h:Heap),YP w h->(K w.params).In h)
 (F:∀(w:World) (mg:Str->Option Value) (fa:Addr) (h:Heap),(K w.params).In h->h.Ns mainGlobals mg->mg d.name= ~~~fa→
  ∃fd:FuncData,(∀(s:Shared) (u:Value),BindsTo s fd ⟨[u],[]⟩ [(x,u)])∧
   ∀base:Heap,(K w.params).In base->base.Ns mainGlobals mg->FnOk l.prog w (K w.params) mg base (CX w) k fa fd [x] (sp (K w.params)))
 (hsp:∀(w:World) (H:Hp) (a:Addr) (ns:List Int),ns.length<=n->b2C H->SqL (K w.params) H a (ns.map V.int)->sp (K w.params) [.ref a] H (fun v _=>v=.bl true) fun _ _ _=>False)
 (hCX:∀(w:World) (H:Hp) (s:Shared) (e:Value) (s':Shared),CX w [] H s (fun _ _ _=>False) e s'->False):
 PySem.W.WalkO q loose XP YP l.row.toRowW d [] (fun f vs=>PySem.call f vs):=
 b2G (K:=K) (CX:=CX) (sp:=fun w=>sp (K w.params)) hn hn2 hdf hr hY F hsp hCX
def spK(K:PySem.W.Frag):Sp:=fun vs H Q E=>∀cA,a4w ⟨K,cA,[6],[]⟩ (b0 ct F 20) 222 1 vs H Q E
theorem b6V{K:PySem.W.Frag}{P:Program}{w:World}{cA:Nat->Addr}{h:Heap}{mg:Str->Option Value}{fa:Addr}(D:DfE K "law" (top 98))(S:Stat P w ⟨K,cA,[6],[]⟩ G ct F mg)(X:K.In h)(Gg:h.Ns mainGlobals mg)(hmg:mg "law"= ~~~fa):
 ∃fd,(∀(s:Shared) (u:Value),BindsTo s fd ⟨[u],[]⟩ [("_law_script",u)])/\∀base:Heap,FnOk P w K mg base CX0 46 fa fd ["_law_script"] (spK K):=by
 obtain⟨f,fd,e,Fn⟩:=D.ex;have e0:=hmg.symm.trans (PySem.W.mg_of X Gg e);cases e0
 have R:RowOk K G F "law" "law" 222 1 fa fd (top 98) (nO (top 98)) (pO (top 98)):=⟨Fn,a5z.a,Fn.binds a5z.b,a5z.p,a6o,a5z.i,a5z.q,a5z.s,a5z.c⟩
 refine⟨fd,fun s u=>?_,fun base=>?_⟩
 · obtain⟨oc,od,kV,doc,pm,an,cdv,ct,osl,rfl,lk,hcd⟩:=Fn.ex;exact .of_eq (a5z.b kV doc pm an cdv ct [u] rfl)
 · have ih:=b6U S 19;have g:=a5e S ih.1 ih.2 (b2x S 19) R base;exact⟨fun vs H Q E hh=>g.len vs H Q E (hh cA),fun A outer s H args us vs Q E a1 a2 a3 a4 hh=>g.run A outer s H args us vs Q E a1 a2 a3 a4 (hh cA)⟩
noncomputable def isL(o:Obj):Bool:=match o.cls with
 |.type n=>n=="list"
 |_=>false
def b0X(K:PySem.W.Frag):Bool:=K.all fun p=>!isL p.2
theorem b3L{K:PySem.W.Frag}(h:b0X K=true){a:Addr}{o:Obj}(e:K.lookup a=some o):o.cls≠.type "list":=by
 intro z
 have hm:∃b,(b,o)∈K:=by
  clear h
  induction K with
  |nil=>cases e
  |cons p r ih=>
   rw[lookup_cons] at e
   split at e
   · cases e;exact⟨p.1,bf⟩
   · obtain⟨b,hb⟩:=ih e;exact⟨b,aD _ hb⟩
 obtain⟨b,hb⟩:=hm
 have:=bu.mp h (b,o) hb
 unfold isL at this
 simp only at this
 rw[z] at this
 simp at this
theorem a5O(m:List Addr)(H:Hp):∀ns:List Int,Rps m H (ns.map D.int) (ns.map V.int)
 |[]=>rfl
 |n::r=>⟨_,_,rfl,rfl,a5O m H r⟩
theorem b6z{K:PySem.W.Frag}{H:Hp}{a:Addr}{ns:List Int}(LT:∀ns:List Int,ns.length<=63->∃h',b0 ct F 20 222 [.ref 0] [.rol (ns.map .int)]=.ok (.bl true) h')(nl:b0X K=true)(hl:ns.length<=63)(hO:b2C H)(hS:SqL K H a (ns.map V.int)):
 spK K [.ref a] H (fun v _=>v=.bl true) fun _ _ _=>False:=by
 intro cA;obtain⟨h',e⟩:=LT ns hl
 have hf:∃o,H a=some (.frz o (.lst (ns.map V.int))):=by
  rcases hS with hS|⟨o,its,n,hk,hc,_⟩
  · rcases hS with hS|hS
    · rcases hO a with z|⟨o,xs,z⟩
      · rw[hS] at z;cases z
      · rw[hS] at z;cases z
    · exact hS
  · exact absurd hc (b3L nl hk)
 refine⟨[.ref 0],[.rol (ns.map .int)],[a],rfl,⟨_,_,rfl,⟨a,rfl,rfl⟩,rfl⟩,⟨rfl,by simp,fun n b c hn hc=>?_⟩,?_⟩
 · cases n with
   |zero=>
    cases hn;cases hc;obtain⟨o,hf⟩:=hf;exact⟨_,hS,a5O _ _ _,o,hf⟩
   |succ n=>simp at hn
 · rw[e];exact fun m' H' v _ _ _ rv=>rv
end K40
namespace EV
open PySem L2 L2T
noncomputable def Q4:R Out->R D
 |.ok (.nx _) h=>.ok .non h
 |.ok (.rt d) h=>.ok d h
 |.no=>.no
theorem a0A:∀{a b:List Char},a.map Char.toNat=b.map Char.toNat->a=b
 |[],[],_=>rfl
 |[],_::_,h=>by simp at h
 |_::_,[],h=>by simp at h
 |x::xs,y::ys,h=>by
  rw[map_cons,map_cons] at h
  injection h with h1 h2
  rw[a0A h2,Char.ext (UInt32.toNat_inj.mp h1)]
theorem a4J{a b:String}:(Str.ofString a=Str.ofString b)=(a=b):=propext ⟨fun h=>by
 rw[Str.ofString_eq_toList,Str.ofString_eq_toList] at h
 injection h with h
 have:=congrArg Array.toList h
 exact String.toList_inj.mp (a0A (by simpa using this)),fun h=>by rw[h]⟩
theorem sl1:(1<=SL)=True:=eq_true (by decide)
theorem sl2:(2<=SL)=True:=eq_true (by decide)
theorem sl3:(3<=SL)=True:=eq_true (by decide)
theorem sl4:(4<=SL)=True:=eq_true (by decide)
theorem sl5:(5<=SL)=True:=eq_true (by decide)
theorem sl6:(6<=SL)=True:=eq_true (by decide)
variable{env:n5}{h:AH}
theorem b3E:Q4 (.ok (.nx env) h)=.ok .non h:=rfl
variable{d:D}
theorem b3D:Q4 (.ok (.rt d) h)=.ok d h:=rfl
theorem b3F:Q4 .no=.no:=rfl
structure PF(F:Nat->Option Fn):Prop where
 f1:F 1=some W9
 f2:F 2=some a0t
 f3:F 3=some a0u
 f4:F 4=some T4
 f5:F 5=some D1
 f9:F 9=some a0b
 f10:F 10=some F7
 f12:F 12=some T3
 f13:F 13=some D0
 f14:F 14=some T5
 f15:F 15=some O4
 f16:F 16=some a0r
 f17:F 17=some O1
 f18:F 18=some J2
 f19:F 19=some T1
 f20:F 20=some O2
 f21:F 21=some E6
 f22:F 22=some L9
 f23:F 23=some X0
 f24:F 24=some O3
 f25:F 25=some K3
 f32:F 32=some N2
variable{n:Nat}{f:Nat}{ds:List D}{fd:Fn}{p:Pat}{c:CF}{α:Type}{g:AH}{r:R D}{neg:Bool}{kvs:List (D×D)}{it:I}{h1:AH}
section
variable{ct:CT}{F:Nat->Option Fn}
theorem i6(hF:F f=some fd)(hl:ds.length=fd.np):b0 ct F (n+1) f ds h=gcR fd.gc h (Q4 (exs ct (b0 ct F n) fd.body (ds.map some++List.replicate (fd.ns-fd.np) none) h)):=by
 show(match F f with
  |none=>R.no
  |some fd=>if ds.length=fd.np then gcR fd.gc h (match exs ct (b0 ct F n) fd.body (ds.map some++List.replicate (fd.ns-fd.np) none) h with
   |.ok (.nx _) h'=>.ok .non h'
   |.ok (.rt d) h'=>.ok d h'
   |.no=>.no) else .no)=_
 rw[hF]
 simp only
 rw[ay hl];generalize exs ct (b0 ct F n) fd.body (ds.map some++List.replicate (fd.ns-fd.np) none) h=r
 cases r with
 |ok o h=>cases o<;>rfl
 |no=>rfl
theorem a0U{g:List (Nat×Cell)}{p:Pat}{t:n5->AH->R Bool}{e:n5->AH->R D}{env0:n5}{h:AH}(hg:gOk g h=true)(B:D->Bool)(f:D->D)(env:D->n5):
 ∀(l acc:List D),(∀x∈l,D8 p x env0=some (env x)/\t (env x) h=.ok (B x) h/\(B x=true->e (env x) h=.ok (f x) h))->acc.length+l.length<=SL->D7 g p t e env0 l acc h=.ok (acc++(l.filter B).map f) h
 |[],acc,_,_=>by rw[D7,ay hg];simp
 | x::r,acc,hx,hl=>by
  obtain⟨h1,h2,h3⟩:=hx x bf;have ih:=fun acc' hl'=>a0U hg B f env r acc' (fun y hy=>hx y (aD _ hy)) hl'
  rw[D7,ay hg,h1]
  simp only
  rw[h2,b9];rw[length_cons] at hl
  cases hb:B x with
  |true=>
   rw[ay rfl,h3 hb,b9,ay (by omega),ih _ (by simp;omega),List.filter_cons_of_pos hb]
   simp
  |false=>
   rw[az (by simp),ih _ (by omega),List.filter_cons_of_neg (by simp[hb])]
theorem a9z{g:List (Nat×Cell)}{e:n5->AH->R D}{env0:n5}(hg:gOk g h=true)(f:D->D)(env:D->n5)(l:List D)(hx:∀x∈l,D8 p x env0=some (env x)/\e (env x) h=.ok (f x) h)(hl:l.length<=SL):
 D7 g p (tst ct c .yes) e env0 l [] h=.ok (l.map f) h:=by
 have:=a0U (t:=tst ct c .yes) hg (fun _=>true) f env l [] (fun x hx'=>⟨(hx x hx').1,by simp only[tst],fun _=>(hx x hx').2⟩) (by simpa using hl)
 rw[this,List.filter_eq_self.mpr (fun _ _=>rfl),nil_append]
theorem a6C{α:Type}(P:α->Bool):∀l:List α,a7v (l.map fun x=>D.bl (P x))=some (l.map P)
 |[]=>rfl
 |x::r=>by rw[map_cons,a7v,a6C P r];rfl
theorem a1x:∀l:List Str,a2C (l.map D.str)=some l
 |[]=>rfl
 |x::r=>by rw[map_cons,a2C,a1x r];rfl
theorem a0l{l:List D}:rdL (h++[.lst l]) h.length=some l:=by
 unfold rdL;simp
theorem b6{c:Cell}:(h++[c])[h.length]? =some c:=by simp
theorem a5w{P:α->Bool}{l:List α}:biD .all (h++[.lst (l.map fun x=>D.bl (P x))]) [.ref h.length]=.ok (.bl (l.all P)) (h++[.lst (l.map fun x=>D.bl (P x))]):=by
 simp only[biD,b6,a0l,a6C];congr 2;simp[all_map]
theorem gc1(hd:d.flat=true):gcR 1 h (.ok d (h++g))=.ok d h:=by
 unfold gcR
 simp only
 rw[az (by decide)]
 simp[hd]
theorem K2(hd:d.flat=true):gcR 1 h (.ok d h)=.ok d h:=by
 have:=gc1 (h:=h) (g:=[]) hd
 simpa using this
theorem gc0:gcR 0 h r=r:=by
 cases r<;>rfl
noncomputable def L6(row:Str):List Str:=(Txt.split row " ").filter fun w=>decide (w≠"")
theorem a1P(c:Nat):∀cs:List Nat,∃ps:List (List Nat),ps≠[]/\(∀p∈ps,c∉p)/\jn c ps=cs
 |[]=>⟨[[]],by simp,by simp,rfl⟩
 | x ::cs=>by
  obtain⟨ps,h1,h2,h3⟩:=a1P c cs
  by_cases hx:x=c
  · subst hx;refine⟨[]::ps,by simp,fun p hp=>?_,?_⟩
    · rcases aE.mp hp with rfl|hp
      · simp
      · exact h2 p hp
    · cases ps with
      |nil=>exact absurd rfl h1
      |cons p r=>rw[←h3];rfl
  · cases ps with
    |nil=>exact absurd rfl h1
    |cons p r=>
     refine⟨(x::p)::r,by simp,fun q hq=>?_,?_⟩
     · rcases aE.mp hq with rfl|hq
       · intro hc
         rcases aE.mp hc with e|e
         · exact hx e.symm
         · exact h2 p bf e
       · exact h2 q (aD _ hq)
     · rw[←h3]
       cases r<;>rfl
theorem b1n(c:Nat):∀ps:List (List Nat),ps.length<=(jn c ps).length+1
 |[]=>by simp
 |[x]=>by simp
 |x::y::r=>by
  have:=b1n c (y::r)
  show(y::r).length+1<=(x++c::jn c (y::r)).length+1
  simp only[ao,length_cons] at this⊢;omega
theorem a8M(x:Str)(c:Nat):(Txt.split x ⟨#[c]⟩).length<=x.length+1:=by
 obtain⟨ps,h1,h2,h3⟩:=a1P c (cd x)
 have e:(ps.map fun p=>(⟨p.toArray⟩:Str)).map cd=ps:=by
  rw[aH];refine List.map_id'' (fun p=>?_) ps
  simp[cd]
 rw[a2E (ps:=ps.map fun p=>(⟨p.toArray⟩:Str)) (by simpa using h1) (fun p hp=>by
  obtain⟨q,hq,rfl⟩:=ak.mp hp
  simpa [cd] using h2 q hq) (by rw[e,h3]),aa,←o7,←h3]
 exact b1n c ps
theorem L5:∀l:List Str,D.flats (l.map D.str)=true
 |[]=>rfl
 |x::r=>by rw[map_cons,D.flats,L5 r];rfl
section
variable{a b e:E}{t:T}
theorem c1d{i:Nat}:ev ct c (.v i) env h=(match env[i]? with
 |some (some d)=>.ok d h
 |_=>.no):=by(rw[ev];try rfl)
theorem c1e:ev ct c (.k d) env h=.ok d h:=by(rw[ev];try rfl)
theorem b2d{o:B}:ev ct c (.bin o a b) env h=(ev ct c a env h).bind fun x h1=>(ev ct c b env h1).bind fun y h2=>op2 o h2 x y:=by(rw[ev];try rfl)
theorem b7e:ev ct c (.isN a) env h=(ev ct c a env h).bind fun x h1=>.ok (.bl (decide (x=.non))) h1:=by(rw[ev];try rfl)
theorem b4w:ev ct c (.notN a) env h=(ev ct c a env h).bind fun x h1=>.ok (.bl (!decide (x=.non))) h1:=by(rw[ev];try rfl)
theorem b9r:ev ct c (.nt a) env h=(asB (ev ct c a env h)).bind fun b h1=>.ok (.bl (!b)) h1:=by(rw[ev];try rfl)
theorem b9w:ev ct c (.an a b) env h=(asB (ev ct c a env h)).bind fun x h1=>if x=true then ev ct c b env h1 else .ok (.bl false) h1:=by(rw[ev];try rfl)
theorem b7b:ev ct c (.orr a b) env h=(asB (ev ct c a env h)).bind fun x h1=>if x=true then .ok (.bl true) h1 else ev ct c b env h1:=by(rw[ev];try rfl)
theorem b7h{o p:B}:ev ct c (.chn o p a b e) env h=(ev ct c a env h).bind fun x h1=>(ev ct c b env h1).bind fun y h2=>(asB (op2 o h2 x y)).bind fun k h3=>if k=true then(ev ct c e env h3).bind fun z h4=>op2 p h4 y z else .ok (.bl false) h3:=by(rw[ev];try rfl)
theorem b9u:ev ct c (.ix a b) env h=(ev ct c a env h).bind fun x h1=>(ev ct c b env h1).bind fun y h2=>ixD h2 x y:=by(rw[ev];try rfl)
theorem b9q{lo hi:O}:ev ct c (.sl a lo hi) env h=(ev ct c a env h).bind fun x h1=>(evo ct c lo env h1).bind fun l h2=>(evo ct c hi env h2).bind fun u h3=>slD h3 l u x:=by(rw[ev];try rfl)
theorem b7g{f:Str}:ev ct c (.fld a f) env h=(ev ct c a env h).bind fun x h1=>W8 h1 f x:=by(rw[ev];try rfl)
theorem b2c{es:Es}:ev ct c (.lst es) env h=(evs ct c es env h).bind fun ds h1=>if ds.length<=SL then o5 (.lst ds) h1 else .no:=by(rw[ev];try rfl)
theorem b7a{es:Es}:ev ct c (.tup es) env h=(evs ct c es env h).bind fun ds h1=>if ds.length<=SL then .ok (.tup ds) h1 else .no:=by(rw[ev];try rfl)
theorem b4A:ev ct c .dnew env h=o5 (.dict []) h:=by(rw[ev];try rfl)
theorem b7c:ev ct c (.neg a) env h=(ev ct c a env h).bind fun x h1=>(match x with
 |.int i=>.ok (.int (-i)) h1
 |_=>.no):=by(rw[ev];try rfl)
theorem b4C{es:Es}:ev ct c (.call f es) env h=(evs ct c es env h).bind fun ds h1=>c f ds h1:=by(rw[ev];try rfl)
theorem b9t{k:Nat}{es:Es}:ev ct c (.mk k es) env h=(evs ct c es env h).bind fun ds h1=>(c (ct.init k) (.ref h1.length::ds) (h1++[.obj k []])).bind fun r h2=>(match r with
 |.non=>.ok (.ref h1.length) h2
 |_=>.no):=by(rw[ev];try rfl)
theorem b9v{b:Bi}{es:Es}:ev ct c (.bi b es) env h=(evs ct c es env h).bind fun ds h1=>biD b h1 ds:=by(rw[ev];try rfl)
theorem b9s{b:Mt}{o:E}{es:Es}:ev ct c (.mt b o es) env h=(ev ct c o env h).bind fun x h1=>if mtT b h1 x=true then(evs ct c es env h1).bind fun ds h2=>mtD b h2 x ds else .no:=by(rw[ev];try rfl)
theorem b7f:ev ct c (.gin neg a ds) env h=(ev ct c a env h).bind fun x h1=>if B7 x=true/\ds.all B7=true then .ok (.bl (inD x ds !=neg)) h1 else .no:=by(rw[ev];try rfl)
theorem b4z:ev ct c (.gdin neg a kvs) env h=(ev ct c a env h).bind fun x h1=>if(E9 x).isSome=true then .ok (.bl ((k8 kvs x).isSome !=neg)) h1 else .no:=by(rw[ev];try rfl)
theorem b4y:ev ct c (.gdix a kvs) env h=(ev ct c a env h).bind fun x h1=>if(E9 x).isSome=true then(match k8 kvs x with
 |some d=>.ok d h1
 |none=>.no) else .no:=by(rw[ev];try rfl)
theorem b4t:evs ct c .nil env h=.ok [] h:=by(rw[evs];try rfl)
theorem b1Y{r:Es}:evs ct c (.cons e r) env h=(ev ct c e env h).bind fun d h1=>(evs ct c r env h1).bind fun ds h2=>.ok (d::ds) h2:=by(rw[evs];try rfl)
theorem a2i:tst ct c .yes env h=.ok true h:=by(rw[tst];try rfl)
theorem b2L:tst ct c (.val e) env h=asB (ev ct c e env h):=by(rw[tst];try rfl)
theorem b2N{o:B}:tst ct c (.cmp o a b) env h=asB ((ev ct c a env h).bind fun x h1=>(ev ct c b env h1).bind fun y h2=>op2 o h2 x y):=by(rw[tst];try rfl)
theorem b2M:tst ct c (.isN a) env h=(ev ct c a env h).bind fun x h1=>.ok (decide (x=.non)) h1:=by(rw[tst];try rfl)
theorem a9N:tst ct c (.notN a) env h=(ev ct c a env h).bind fun x h1=>.ok (!decide (x=.non)) h1:=by(rw[tst];try rfl)
theorem b2O{o p:B}:tst ct c (.chn o p a b e) env h=asB ((ev ct c a env h).bind fun x h1=>(ev ct c b env h1).bind fun y h2=>(asB (op2 o h2 x y)).bind fun k h3=>if k=true then(ev ct c e env h3).bind fun z h4=>op2 p h4 y z else .ok (.bl false) h3):=by(rw[tst];try rfl)
theorem b5t{u:T}:tst ct c (.an t u) env h=(tst ct c t env h).bind fun x h1=>if x=true then tst ct c u env h1 else .ok false h1:=by(rw[tst];try rfl)
theorem a4q{u:T}:tst ct c (.orr t u) env h=(tst ct c t env h).bind fun x h1=>if x=true then .ok true h1 else tst ct c u env h1:=by(rw[tst];try rfl)
theorem b5s:tst ct c (.nt t) env h=(tst ct c t env h).bind fun x h1=>.ok (!x) h1:=by(rw[tst];try rfl)
theorem b6Y:evo ct c .no env h=.ok none h:=by(rw[evo];try rfl)
theorem b6Z:evo ct c (.at e) env h=a8h (ev ct c e env h):=by(rw[evo];try rfl)
theorem b3X{i:Int}:a8h (.ok (.int i) h)=.ok (some i) h:=rfl
theorem a0g{b:Bool}:asB (.ok (.bl b) h)=.ok b h:=rfl
theorem a5k:evi ct c (.seq e) env h=(ev ct c e env h).bind fun d h1=>V6 h1 d:=by(rw[evi];try rfl)
theorem b2a:evi ct c (.enum e) env h=(ev ct c e env h).bind fun d h1=>Y4 h1 d:=by(rw[evi];try rfl)
theorem a6q:evi ct c (.rng1 a) env h=(ev ct c a env h).bind fun d h1=>b0n h1 (.int 0) d:=by(rw[evi];try rfl)
theorem b4u:evi ct c (.zip a b) env h=(ev ct c a env h).bind fun x h1=>(ev ct c b env h1).bind fun y h2=>b2D h2 x y:=by(rw[evi];try rfl)
theorem a0S{i:Nat}:ex ct c (.set i e) env h=(ev ct c e env h).bind fun d h1=>.ok (.nx (env.set i (some d))) h1:=by(rw[ex];try rfl)
theorem b1X:ex ct c (.ex e) env h=(ev ct c e env h).bind fun _ h1=>.ok (.nx env) h1:=by(rw[ex];try rfl)
theorem a5j:ex ct c (.ret e) env h=(ev ct c e env h).bind fun d h1=>.ok (.rt d) h1:=by(rw[ex];try rfl)
theorem a3c{u v:Ss}:ex ct c (.iff t u v) env h=(tst ct c t env h).bind fun x h1=>if x=true then exs ct c u env h1 else exs ct c v env h1:=by(rw[ex];try rfl)
theorem a7n{u:Ss}:ex ct c (.for p it u) env h=(evi ct c it env h).bind fun x h1=>V0 x.2 p (exs ct c u) x.1 env h1:=by(rw[ex];try rfl)
theorem b6W{i v:E}:ex ct c (.six a i v) env h=(ev ct c v env h).bind fun x h1=>(ev ct c a env h1).bind fun o h2=>(ev ct c i env h2).bind fun k h3=>(Q2 h3 o k x).bind fun _ h4=>.ok (.nx env) h4:=by(rw[ex];try rfl)
theorem b6X{f:Str}{v:E}:ex ct c (.sfl a f v) env h=(ev ct c v env h).bind fun x h1=>(ev ct c a env h1).bind fun o h2=>(a4y h2 o f x).bind fun _ h3=>.ok (.nx env) h3:=by(rw[ex];try rfl)
theorem a5i:exs ct c .nil env h=.ok (.nx env) h:=by(rw[exs];try rfl)
theorem J0{s:S}{r:Ss}:exs ct c (.cons s r) env h=(ex ct c s env h).bind fun o h1=>(match o with
 |.nx env'=>exs ct c r env' h1
 |.rt d=>.ok (.rt d) h1):=by(rw[exs];try rfl)
theorem a1q{fr:List Nat}{x:Its}{h2:AH}(hi:evi ct c it env h=.ok x h1)(hc:D7 x.2 p (tst ct c t) (ev ct c e) (u9 n fr env) x.1 [] h1=.ok ds h2):ev ct c (.comp p it n fr t e) env h=.ok (.ref h2.length) (h2++[.lst ds]):=by
 rw[ev,hi,b9,hc];rfl
end
section
variable{e:E}{t:T}
theorem Q9{fr:List Nat}{l:List D}{g:List (Nat×Cell)}(hi:evi ct c it env h=.ok (l,g) h1)(hg:gOk g h1=true)(B:D->Bool)(f:D->D)(envf:D->n5)
 (hx:∀x∈l,D8 p x (u9 n fr env)=some (envf x)/\tst ct c t (envf x) h1=.ok (B x) h1/\(B x=true->ev ct c e (envf x) h1=.ok (f x) h1)) (hl:l.length<=SL):ev ct c (.comp p it n fr t e) env h=.ok (.ref h1.length) (h1++[.lst ((l.filter B).map f)]):=
 a1q (x:=(l,g)) hi (a0U hg B f envf l [] hx (by simpa using hl))
theorem v7{fr:List Nat}{l:List D}{g:List (Nat×Cell)}(hi:evi ct c it env h=.ok (l,g) h1)(hg:gOk g h1=true)(f:D->D)(envf:D->n5)
 (hx:∀x∈l,D8 p x (u9 n fr env)=some (envf x)/\ev ct c e (envf x) h1=.ok (f x) h1) (hl:l.length<=SL):ev ct c (.comp p it n fr .yes e) env h=.ok (.ref h1.length) (h1++[.lst (l.map f)]):=
 a1q (x:=(l,g)) hi (a9z hg f envf l hx hl)
end
theorem gc2{k:Nat}{c:Cell}(hk:(h++g)[k]? =some c)(hl:h.length<=k)(hc:c.flat=true):gcR 2 h (.ok (.ref k) (h++g))=.ok (.ref h.length) (h++[c]):=by
 unfold gcR;simp only[hk];simp[hl,hc]
end
end EV
local macro_rules
  | `(tactic| simp_arith [$ls,*]) => `(tactic| simp only [EV.c1d, EV.c1e, EV.b2d, EV.b7e, EV.b4w, EV.b9r, EV.b9w, EV.b7b, EV.b7h, EV.b9u, EV.b9q, EV.b7g, EV.b2c, EV.b7a, EV.b4A, EV.b7c, EV.b4C, EV.b9t, EV.b9v, EV.b9s, EV.b7f, EV.b4z, EV.b4y, EV.b4t, EV.b1Y, EV.a2i, EV.b2L, EV.b2N, EV.b2M, EV.a9N, EV.b2O, EV.b5t, EV.a4q, EV.b5s, EV.b6Y, EV.b6Z, EV.b3X, EV.a0g, EV.a5k, EV.b2a, EV.a6q, EV.b4u, EV.a0S, EV.b1X, EV.a5j, EV.a3c, EV.a7n, EV.b6W, EV.b6X, EV.a5i, EV.J0, EV.b9, EV.b4T,
      map_cons, map_nil, cons_append, nil_append, List.getElem?_cons_zero, List.getElem?_cons_succ, List.set_cons_zero, set_cons_succ, List.replicate, length_cons, length_nil, if_true, if_false, Bool.false_eq_true, Bool.true_eq_false, EV.b3D, EV.b3E, EV.b3F, Nat.reduceSub, Nat.reduceAdd, Nat.reduceLT, aB, Nat.zero_le, EV.a4J, String.reduceEq, EV.sl1, EV.sl2, EV.sl3, EV.sl4, EV.sl5, EV.sl6, $ls,*])
namespace EV
open PySem L2 L2T
variable{z:Str}{h:AH}{xs:List D}{w:Nat}{d:D}{n:Nat}{row:Str}{id:Nat}{ws:List Str}{fd:Fn}
section
variable{ct:CT}{F:Nat->Option Fn}
noncomputable def due(a b c:Bool):Option Str:=if a then some "twice" else if !b then some "name" else if c then some "many" else none
noncomputable def Y6:Option Str->D
 |some x=>.str x
 |none=>.non
theorem a0e(o:Option Str):decide (Y6 o=.non)=o.isNone:=by cases o<;>simp[Y6]
theorem a0d{a b c:Bool}(h:due a b c=none):a=false/\b=true/\c=false:=by
 cases a<;>cases b<;>cases c<;>simp[due] at h⊢
theorem a6N{c:Nat}:Txt.startswith z ⟨#[c]⟩=decide ((cd z).head? =some c):=by
 have:=StrLaws.subAt_one z c 0
 unfold Txt.startswith;rw[Bool.eq_iff_iff,ae,decide_eq_true_iff,this,decide_eq_true_iff]
 show(cd z)[0]? =some c↔_
 rw[List.head?_eq_getElem?]
theorem b0a(z:Str)(h:1<=z.length):Txt.slice z (some 1) none=tl z:=by
 rw[PyProof.Rows.slice_from_eq (b:=z.length) (by decide) (by omega) rfl]
 unfold tl;congr 2
 have:(z.cps.toList.drop 1).length=z.length-1:=by rw[bD,show z.cps.toList.length=z.length from o7 z]
 show List.take ((z.length:Int)-1).toNat (List.drop 1 z.cps.toList)=_
 exact bp (by omega)
theorem ix_str{i c:Nat}(hl:z.length<=SL)(hc:(cd z)[i]? =some c):ixD h (.str z) (.int (i:Nat))=.ok (.str ⟨#[c]⟩) h:=by
 have hi:=(ac.mp hc).1
 have:atI z.cps.toList (i:Int)=some c:=by
  show(ixN (cd z).length (i:Int)).bind (fun j=>(cd z)[j]?)=some c
  have e:ixN (cd z).length (i:Int)=some i:=by
   unfold ixN;rw[ay (by omega),ay (by omega)]
   simp
  rw[e];exact hc
 simp only[ixD,ay hl,this]
theorem B9{i:Nat}(hw:h[w]? =some (.lst xs))(hd:xs[i]? =some d):ixD h (.ref w) (.int (i:Nat))=.ok d h:=by
 have hi:=(ac.mp hd).1
 have:atI xs (i:Int)=some d:=by
  show(ixN xs.length (i:Int)).bind (fun j=>xs[j]?)=some d
  have e:ixN xs.length (i:Int)=some i:=by
   unfold ixN;rw[ay (by omega),ay (by omega)]
   simp
  rw[e];exact hd
 simp only[ixD,hw,this]
variable(W:PF F)
include W
theorem a5C(hr:row.length<=100000):b0 ct F (n+1) 1 [.str row] h=.ok (.ref h.length) (h++[.lst ((L6 row).map .str)]):=by
 rw[i6 W.f1 rfl]
 have hs:(Txt.split row " ").length<=SL:=aU (a8M row 32) (by show _<=16777216;omega)
 simp only[W9];simp_arith[];rw[Q9 (l:=(Txt.split row " ").map D.str) (g:=[(h.length,.lst ((Txt.split row " ").map D.str))]) (h1:=h++[.lst ((Txt.split row " ").map D.str)]) ?_ (by simp[gOk]) (fun d=>match d with|.str w=>decide (w≠"")|_=>false) id (fun d=>[some d]) ?_ (by simpa using hs)]
 · simp_arith[]
   have e:List.map id (List.filter (fun d=>match d with|D.str w=>decide (w≠"")|_=>false) ((Txt.split row " ").map D.str))=(L6 row).map D.str:=by
    rw[map_id,List.filter_map];rfl
   rw[e,aA];exact gc2 (by simp) (by simp) (L5 _)
 · simp_arith[mtT,mtD,o5];rw[ay ⟨by decide,by show _<=16777216;omega⟩]
   simp only[b9,V6,b6]
 · intro x hx;obtain⟨w,_,rfl⟩:=ak.mp hx;refine⟨rfl,?_,fun _=>?_⟩
   · simp_arith[op2,a1g,eqS];simp
   · simp_arith[id]
theorem a2X{g:Str}(hz:z.length<=100000):b0 ct F (n+1) 2 [.str z,.str g] h=.ok (.bl ((cd z).all fun c=>decide (c∈cd g))) h:=by
 rw[i6 W.f2 rfl];simp only[a0t];simp_arith[];rw[v7 (l:=X4 z) (g:=[]) (h1:=h) ?_ (by simp[gOk]) (fun d=>match d with|.str w=>.bl (a4K w g)|_=>.non) (fun d=>[some d,some (.str g)]) ?_ (by unfold X4;rw[aa,show z.cps.toList.length=z.length from o7 z];show _<=16777216;omega)]
 · have e:(X4 z).map (fun d=>match d with|D.str w=>D.bl (a4K w g)|_=>D.non)=(cd z).map fun c=>D.bl (decide (c∈cd g)):=by
    unfold X4;rw[aH];refine bc fun c _=>?_
    simp only[Function.comp,a4K];rw[StrLaws.found_one]
   rw[e];simp_arith[a5w];exact gc1 rfl
 · simp_arith[V6]
 · intro x hx;unfold X4 at hx;obtain⟨w,_,rfl⟩:=ak.mp hx;refine⟨rfl,?_⟩
   simp_arith[op2,V9];simp
theorem L4(hz:z.length<=100000):b0 ct F (n+2) 3 [.str z] h=.ok (.bl (g9 z)) h:=by
 rw[i6 W.f3 rfl];simp only[a0u]
 have hl:z.length<=SL:=by show _<=16777216;omega
 simp_arith[biD,ay hl,op2,E8,a2X W hz]
 have e:g9 z=(decide ((1:Int)<=(z.length:Int))&&(decide ((z.length:Int)<=12)&&(cd z).all Q6)):=by
  unfold g9;rw[Bool.and_assoc];congr 1
  · exact decide_eq_decide.mpr (by omega)
  · congr 1;exact decide_eq_decide.mpr (by omega)
 rw[e]
 by_cases h1:(1:Int)<=(z.length:Int)
 · by_cases h2:(z.length:Int)<=12
   · simp only[h1,h2,decide_true,if_true,Bool.true_and,b9,a0g];exact K2 rfl
   · simp only[h1,h2,decide_true,decide_false,if_true,Bool.true_and,Bool.false_and,b9,a0g,Bool.false_eq_true,if_false];exact K2 rfl
 · simp only[h1,decide_false,Bool.false_and,b9,a0g,Bool.false_eq_true,if_false];exact K2 rfl
theorem K1(hz:z.length<=100000):b0 ct F (n+2) 4 [.str z] h=.ok (.bl (a1S z)) h:=by
 rw[i6 W.f4 rfl];simp only[T4]
 have hl:z.length<=SL:=by show _<=16777216;omega
 have hm:∀h,b0 ct F (n+1) 2 [.str z,.str "0123456789"] h=.ok (.bl ((cd z).all T0)) h:=fun h=>a2X W hz
 simp_arith[biD,ay hl,op2,E8,hm]
 have e:a1S z=(decide ((1:Int)<=(z.length:Int))&&(decide ((z.length:Int)<=5)&&((cd z).all T0&&(decide (z="0")||!decide ((cd z).head? =some 48))))):=by
  unfold a1S;rw[Bool.and_assoc,Bool.and_assoc];congr 1
  · exact decide_eq_decide.mpr (by omega)
  · congr 1;exact decide_eq_decide.mpr (by omega)
 rw[e]
 by_cases h1:(1:Int)<=(z.length:Int)
 · by_cases h2:(z.length:Int)<=5
   · simp_arith[hm,h1,h2,decide_true,if_true,Bool.true_and,b9,a0g,Bool.not_true,Bool.false_eq_true,if_false,op2]
     cases hf:(cd z).all T0 with
     |false=>
      simp_arith[hm,Bool.not_false,if_true,Bool.false_and,b9,op2];exact K2 rfl
     | true=>
      obtain⟨c,r,hc⟩:∃c r,cd z=c::r:=by
       cases hq:cd z with
       |nil=>have:=o7 z;rw[hq] at this;simp at this;omega
       |cons c r=>exact⟨c,r,rfl⟩
      have hix:ixD h (.str z) (.int 0)=.ok (.str ⟨#[c]⟩) h:=ix_str (i:=0) hl (by rw[hc];rfl)
      have h0:decide ((⟨#[c]⟩:Str)="0")=decide ((cd z).head? =some 48):=by
       rw[hc];refine decide_eq_decide.mpr ?_
       rw[show(Str.ofString "0")=⟨#[48]⟩ from rfl];simp
      simp_arith[hm,Bool.not_true,Bool.false_eq_true,if_false,Bool.true_and,b9,K0,a1g,eqS,a0g,hix,h0,op2]
      cases hz0:decide (z="0") with
      |true=>
       simp_arith[hm,if_true,Bool.true_or,op2];exact K2 rfl
      |false=>
       simp_arith[hm,Bool.false_eq_true,if_false,Bool.false_or,op2];exact K2 rfl
   · simp_arith[hm,h1,h2,decide_true,decide_false,if_true,Bool.true_and,Bool.false_and,b9,a0g,Bool.false_eq_true,if_false,Bool.not_false,op2];exact K2 rfl
 · simp_arith[hm,h1,decide_false,Bool.false_and,b9,a0g,Bool.false_eq_true,if_false,Bool.not_false,if_true,op2];exact K2 rfl
theorem a4X(hz:z.length<=100000):b0 ct F (n+3) 5 [.str z] h=.ok (.bl (a3F z)) h:=by
 rw[i6 W.f5 rfl];simp only[D1]
 have hl:z.length<=SL:=by show _<=16777216;omega
 have hst:Txt.startswith z "-"=decide ((cd z).head? =some 45):=a6N
 simp_arith[mtT,mtD,op2,a1g,eqS,slD,ay hl,hst,K1 W hz];unfold a3F
 by_cases h1:(cd z).head? =some 45
 · have hl1:1<=z.length:=by
    rw[←o7]
    cases hq:cd z with
    |nil=>rw[hq] at h1;cases h1
    |cons c r=>simp
   have ht:(tl z).length<=100000:=by rw[←o7,a8B,bD,o7];omega
   simp_arith[h1,decide_true,if_true,b0a z hl1,K1 W ht,b9,K1 W hz]
   cases hz0:decide (z="-0") with
   |true=>
    simp_arith[Bool.not_true,Bool.false_eq_true,if_false,Bool.false_and];exact K2 rfl
   |false=>
    simp_arith[Bool.not_false,if_true,Bool.true_and];exact K2 rfl
 · simp_arith[h1,decide_false,Bool.false_eq_true,if_false,K1 W hz];exact K2 rfl
theorem C9{a b c:Bool}:b0 ct F (n+1) 14 [.bl a,.bl b,.bl c] h=.ok (Y6 (due a b c)) h:=by
 rw[i6 W.f14 rfl];simp only[T5];simp_arith[]
 cases a<;>cases b<;>cases c<;>exact K2 rfl
theorem a4n{k:Nat}{P:Str->Bool}(hF:F id=some fd)(hb:fd=⟨1,1,1,(.o (.ret (.bi .all (.o (.comp (.nm 0) (.seq (.v 0)) 1 [] .yes (.call k (.o (.v 0))))))))⟩)
 (hw:h[w]? =some (.lst (ws.map D.str))) (hl:ws.length<=SL) (hP:∀x∈ws,b0 ct F n k [.str x] h=.ok (.bl (P x)) h):b0 ct F (n+1) id [.ref w] h=.ok (.bl (ws.all P)) h:=by
  subst hb;rw[i6 hF rfl];simp_arith[];rw[v7 (l:=ws.map D.str) (g:=[(w,.lst (ws.map D.str))]) (h1:=h) ?_ (by simp[gOk,hw]) (fun d=>match d with|.str x=>.bl (P x)|_=>.non) (fun d=>[some d]) ?_ (by simpa using hl)]
  · have e:(ws.map D.str).map (fun d=>match d with|D.str x=>D.bl (P x)|_=>D.non)=ws.map fun x=>D.bl (P x):=by
      rw[aH];rfl
    rw[e];simp_arith[a5w];exact gc1 rfl
  · simp_arith[V6,hw]
  · intro x hx;obtain⟨y,hy,rfl⟩:=ak.mp hx;refine⟨rfl,?_⟩
    simp_arith[hP y hy]
theorem a1w(hw:h[w]? =some (.lst (ws.map D.str)))(hl:ws.length<=SL)(hs:∀x∈ws,x.length<=100000):b0 ct F (n+3) 9 [.ref w] h=.ok (.bl (ws.all g9)) h:=
 a4n (n:=n+2) W W.f9 rfl hw hl fun x hx=>L4 W (hs x hx)
theorem a3w(hw:h[w]? =some (.lst (ws.map D.str)))(hl:ws.length<=SL)(hs:∀x∈ws,x.length<=100000):b0 ct F (n+4) 10 [.ref w] h=.ok (.bl (ws.all a3F)) h:=
 a4n (n:=n+3) W W.f10 rfl hw hl fun x hx=>a4X W (hs x hx)
end
structure HD where
 shapes:List (Str×D):=[]
 marks:List (Str×D):=[]
 points:List ((Str×Str)×D):=[]
 letters:List (Str×D):=[]
 gaps:List Str:=[]
 classes:List (Str×D):=[]
 features:List (Str×D):=[]
 rules:List (Str×List D):=[]
noncomputable def kd(l:List (Str×D)):List (D×D):=l.map fun p=>(.str p.1,p.2)
noncomputable def pd(l:List ((Str×Str)×D)):List (D×D):=l.map fun p=>(.tup [.str p.1.1,.str p.1.2],p.2)
noncomputable def rd(l:List (Str×List D)):List D:=l.map fun r=>.tup (.str r.1::r.2)
noncomputable def a1E(n:Nat):List (Str×D):=[("shapes",.ref (n+1)),("marks",.ref (n+2)),("points",.ref (n+3)),("letters",.ref (n+4)),("gaps",.ref (n+5)),("classes",.ref (n+6)),("features",.ref (n+7)),("rules",.ref (n+8))]
structure HallAt(h:AH)(n:Nat)(H:HD):Prop where
 o:h[n]? =some (.obj 6 (a1E n))
 c1:h[n+1]? =some (.dict (kd H.shapes))
 c2:h[n+2]? =some (.dict (kd H.marks))
 c3:h[n+3]? =some (.dict (pd H.points))
 c4:h[n+4]? =some (.dict (kd H.letters))
 c5:h[n+5]? =some (.lst (H.gaps.map .str))
 c6:h[n+6]? =some (.dict (kd H.classes))
 c7:h[n+7]? =some (.dict (kd H.features))
 c8:h[n+8]? =some (.lst (rd H.rules))
structure Fr(n:Nat)(h h':AH):Prop where
 len:h.length<=h'.length
 get:∀i,i<h.length->(i<n∨n+8<i)->h'[i]? =h[i]?
theorem Fr.refl(n:Nat)(h:AH):Fr n h h:=⟨ai _,fun _ _ _=>rfl⟩
variable{h':AH}
theorem Fr.trans{h'':AH}(a:Fr n h h')(b:Fr n h' h''):Fr n h h'':=
 ⟨aU a.len b.len,fun i hi hn=>(b.get i (aC hi a.len) hn).trans (a.get i hi hn)⟩
theorem Fr.app(n:Nat)(h g:AH):Fr n h (h++g):=⟨by simp,fun i hi _=>av hi⟩
theorem Fr.set{k:Nat}{c:Cell}(h1:n<=k)(h2:k<=n+8):Fr n h (h.set k c):=⟨by simp,fun i hi hn=>List.getElem?_set_ne (by omega)⟩
variable{g:AH}
theorem b5{i:Nat}{c:Cell}(e:h[i]? =some c):(h++g)[i]? =some c:=by
 rw[av (ac.mp e).1]
 exact e
theorem HallAt.app{H:HD}(A:HallAt h n H)(g:AH):HallAt (h++g) n H:=
 ⟨b5 A.o,b5 A.c1,b5 A.c2,b5 A.c3,b5 A.c4,b5 A.c5,b5 A.c6,b5 A.c7,b5 A.c8⟩
variable{c':Cell}
theorem b7{i k:Nat}{c:Cell}(hne:k≠i)(e:h[i]? =some c):(h.set k c')[i]? =some c:=by
 rw[List.getElem?_set_ne hne]
 exact e
theorem x5{i:Nat}{c:Cell}(e:h[i]? =some c):(h.set i c')[i]? =some c':=List.getElem?_set_self (ac.mp e).1
theorem HallAt.s1{H:HD}(A:HallAt h n H)(l:List (Str×D)):HallAt (h.set (n+1) (.dict (kd l))) n {H with shapes:=l}:=
 ⟨b7 (by omega) A.o,x5 A.c1,b7 (by omega) A.c2,b7 (by omega) A.c3,b7 (by omega) A.c4,b7 (by omega) A.c5,b7 (by omega) A.c6,b7 (by omega) A.c7,b7 (by omega) A.c8⟩
theorem HallAt.s2{H:HD}(A:HallAt h n H)(l:List (Str×D)):HallAt (h.set (n+2) (.dict (kd l))) n {H with marks:=l}:=
 ⟨b7 (by omega) A.o,b7 (by omega) A.c1,x5 A.c2,b7 (by omega) A.c3,b7 (by omega) A.c4,b7 (by omega) A.c5,b7 (by omega) A.c6,b7 (by omega) A.c7,b7 (by omega) A.c8⟩
theorem HallAt.s3{H:HD}(A:HallAt h n H)(l:List ((Str×Str)×D)):HallAt (h.set (n+3) (.dict (pd l))) n {H with points:=l}:=
 ⟨b7 (by omega) A.o,b7 (by omega) A.c1,b7 (by omega) A.c2,x5 A.c3,b7 (by omega) A.c4,b7 (by omega) A.c5,b7 (by omega) A.c6,b7 (by omega) A.c7,b7 (by omega) A.c8⟩
theorem HallAt.s4{H:HD}(A:HallAt h n H)(l:List (Str×D)):HallAt (h.set (n+4) (.dict (kd l))) n {H with letters:=l}:=
 ⟨b7 (by omega) A.o,b7 (by omega) A.c1,b7 (by omega) A.c2,b7 (by omega) A.c3,x5 A.c4,b7 (by omega) A.c5,b7 (by omega) A.c6,b7 (by omega) A.c7,b7 (by omega) A.c8⟩
theorem HallAt.s6{H:HD}(A:HallAt h n H)(l:List (Str×D)):HallAt (h.set (n+6) (.dict (kd l))) n {H with classes:=l}:=
 ⟨b7 (by omega) A.o,b7 (by omega) A.c1,b7 (by omega) A.c2,b7 (by omega) A.c3,b7 (by omega) A.c4,b7 (by omega) A.c5,x5 A.c6,b7 (by omega) A.c7,b7 (by omega) A.c8⟩
theorem HallAt.s7{H:HD}(A:HallAt h n H)(l:List (Str×D)):HallAt (h.set (n+7) (.dict (kd l))) n {H with features:=l}:=
 ⟨b7 (by omega) A.o,b7 (by omega) A.c1,b7 (by omega) A.c2,b7 (by omega) A.c3,b7 (by omega) A.c4,b7 (by omega) A.c5,b7 (by omega) A.c6,x5 A.c7,b7 (by omega) A.c8⟩
theorem HallAt.fld1{H:HD}(A:HallAt h n H):W8 h "shapes" (.ref n)=.ok (.ref (n+1)) h:=by simp only[W8,A.o];rfl
theorem HallAt.fld2{H:HD}(A:HallAt h n H):W8 h "marks" (.ref n)=.ok (.ref (n+2)) h:=by simp only[W8,A.o];rfl
theorem HallAt.fld3{H:HD}(A:HallAt h n H):W8 h "points" (.ref n)=.ok (.ref (n+3)) h:=by simp only[W8,A.o];rfl
theorem HallAt.fld4{H:HD}(A:HallAt h n H):W8 h "letters" (.ref n)=.ok (.ref (n+4)) h:=by simp only[W8,A.o];rfl
theorem HallAt.fld5{H:HD}(A:HallAt h n H):W8 h "gaps" (.ref n)=.ok (.ref (n+5)) h:=by simp only[W8,A.o];rfl
theorem HallAt.fld6{H:HD}(A:HallAt h n H):W8 h "classes" (.ref n)=.ok (.ref (n+6)) h:=by simp only[W8,A.o];rfl
theorem HallAt.fld7{H:HD}(A:HallAt h n H):W8 h "features" (.ref n)=.ok (.ref (n+7)) h:=by simp only[W8,A.o];rfl
theorem HallAt.fld8{H:HD}(A:HallAt h n H):W8 h "rules" (.ref n)=.ok (.ref (n+8)) h:=by simp only[W8,A.o];rfl
theorem W5(k:Str)(l:List (Str×D)):z7 (.str k) (kd l)=true:=by
 simp[z7,kd,L7]
theorem a2v(a b:Str)(l:List ((Str×Str)×D)):z7 (.tup [.str a,.str b]) (pd l)=true:=by
 simp[z7,pd,L7,u7,E9]
theorem a7m(k:Str):∀l:List (Str×D),(k8 (kd l) (.str k)).isSome=decide (k∈l.map (·.1))
 |[]=>rfl
 | p ::r=>by
  have ih:=a7m k r;unfold k8 kd at ih⊢;rw[map_cons,List.find?_cons]
  by_cases e:p.1=k
  · simp[e]
  · have e':¬(D.str p.1=D.str k):=fun z=>e (by injection z)
    simp only[e',decide_false];rw[ih]
    exact decide_eq_decide.mpr ⟨fun z=>by simp[z],fun z=>by
     rw[map_cons] at z
     rcases aE.mp z with z|z
     · exact absurd z.symm e
     · exact z⟩
theorem b1I(a b:Str):∀l:List ((Str×Str)×D),(k8 (pd l) (.tup [.str a,.str b])).isSome=decide ((a,b)∈l.map (·.1))
 |[]=>rfl
 | p ::r=>by
  have ih:=b1I a b r;unfold k8 pd at ih⊢;rw[map_cons,List.find?_cons]
  by_cases e:p.1=(a,b)
  · simp[e]
  · have e':¬(D.tup [.str p.1.1,.str p.1.2]=D.tup [.str a,.str b]):=fun z=>e (by
     injection z with z
     injection z with z1 z2
     injection z1 with z1
     injection z2 with z2
     injection z2 with z2
     exact Prod.ext z1 z2)
    simp only[e',decide_false];rw[ih]
    exact decide_eq_decide.mpr ⟨fun z=>by simp[z],fun z=>by
     rw[map_cons] at z
     rcases aE.mp z with z|z
     · exact absurd z.symm e
     · exact z⟩
theorem b0w{k:Str}{l:List (Str×D)}(h:k∉l.map (·.1)):a0K (kd l) (.str k) d=kd (l++[(k,d)]):=by
 unfold a0K;rw[az]
 · simp[kd]
 · intro z;rw[any_eq_true] at z;obtain⟨p,hp,e⟩:=z;unfold kd at hp;obtain⟨q,hq,rfl⟩:=ak.mp hp;have e:=aw e
   injection e with e
   exact h (ak.mpr ⟨q,hq,e⟩)
theorem b5N{a b:Str}{l:List ((Str×Str)×D)}(h:(a,b)∉l.map (·.1)):a0K (pd l) (.tup [.str a,.str b]) d=pd (l++[((a,b),d)]):=by
 unfold a0K;rw[az]
 · simp[pd]
 · intro z;rw[any_eq_true] at z;obtain⟨p,hp,e⟩:=z;unfold pd at hp;obtain⟨q,hq,rfl⟩:=ak.mp hp;have e:=aw e
   injection e with e
   injection e with e1 e2
   injection e1 with e1
   injection e2 with e2
   injection e2 with e2
   exact h (ak.mpr ⟨q,hq,Prod.ext e1 e2⟩)
theorem a0B{l:List (Str×D)}{k:Str}(e:h[n]? =some (.dict (kd l))):V9 false h (.str k) (.ref n)=.ok (.bl (decide (k∈l.map (·.1)))) h:=by
 simp only[V9,e,W5,if_true,a7m];simp
theorem b8U{l:List ((Str×Str)×D)}{a b:Str}(e:h[n]? =some (.dict (pd l))):V9 false h (.tup [.str a,.str b]) (.ref n)=.ok (.bl (decide ((a,b)∈l.map (·.1)))) h:=by
 simp only[V9,e,a2v,if_true,b1I];simp
theorem a4Q{l:List (Str×D)}(e:h[n]? =some (.dict (kd l))):biD .len h [.ref n]=.ok (.int l.length) h:=by
 have:z7 (.int 0) (kd l)=true:=by simp[z7,kd,L7]
 simp only[biD,e,this,if_true];simp[kd]
theorem A9{l:List D}(e:h[n]? =some (.lst l)):biD .len h [.ref n]=.ok (.int l.length) h:=by
 have:rdL h n=some l:=by unfold rdL;rw[e]
 simp only[biD,e,this]
section
variable{ct:CT}{F:Nat->Option Fn}(W:PF F)
include W
theorem b1D:b0 ct F (n+1) 32 [.ref h.length] (h++[.obj 6 []])=.ok .non (h++[.obj 6 (a1E h.length),.dict [],.dict [],.dict [],.dict [],.lst [],.dict [],.dict [],.lst []]):=by
 rw[i6 W.f32 rfl];simp only[N2];rw[gc0]
 have hs:∀(x z:Cell) (t:AH),(h++x::t).set h.length z=h++z::t:=fun x z t=>by
  rw[set_append_right _ _ (ai _)];simp
 have hg:∀(x:Cell) (t:AH),(h++x::t)[h.length]? =some x:=fun x t=>by simp
 simp_arith[o5,a4y,hs,hg,aA,a3K];simp only[ao,length_cons,length_nil,a1E]
end
theorem B0(i:Int)(k:Nat)(hi:i=(k:Nat))(hw:h[w]? =some (.lst xs))(hd:xs[k]? =some d):ixD h (.ref w) (.int i)=.ok d h:=by
 subst hi;exact B9 hw hd
theorem Y9{l:List (Str×D)}{k:Str}(e:h[n]? =some (.dict (kd l)))(hk:k∉l.map (·.1))(hl:l.length<SL):Q2 h (.ref n) (.str k) d=.ok () (h.set n (.dict (kd (l++[(k,d)])))):=by
 simp only[Q2,e];rw[ay ⟨W5 _ _,by simpa [kd] using hl⟩,b0w hk]
theorem a8P{l:List ((Str×Str)×D)}{a b:Str}(e:h[n]? =some (.dict (pd l)))(hk:(a,b)∉l.map (·.1))(hl:l.length<SL):Q2 h (.ref n) (.tup [.str a,.str b]) d=.ok () (h.set n (.dict (pd (l++[((a,b),d)])))):=by
 simp only[Q2,e];rw[ay ⟨a2v _ _ _,by simpa [pd] using hl⟩,b5N hk]
theorem a7i{b:Str}{v:Int}(hl:b.length<=640)(hv:intText? b=some v):biD .int h [.str b]=.ok (.int v) h:=by
 simp only[biD,ay hl,hv]
theorem V2(k:Nat)(xs:List D):V3 xs (some (k:Int)) none=xs.drop k:=by
 unfold V3 HT.sIx
 simp only
 rw[az (by omega)]
 show(xs.drop (min k xs.length)).take (xs.length-min k xs.length)=xs.drop k
 by_cases h:k<=xs.length
 · rw[Nat.min_eq_left h];exact bp (by simp)
 · rw[Nat.min_eq_right (by omega),drop_length,List.drop_of_length_le (by omega)];simp
theorem a1G(k l:Nat)(xs:List D)(hk:k<=l)(hl:l<=xs.length):V3 xs (some (k:Int)) (some (l:Int))=(xs.drop k).take (l-k):=by
 unfold V3 HT.sIx
 simp only
 rw[az (by omega),az (by omega)]
 show(xs.drop (min k xs.length)).take (min l xs.length-min k xs.length)=_
 rw[Nat.min_eq_left (show k<=xs.length by omega),Nat.min_eq_left hl]
theorem V4{lo hi:Option Int}(hw:h[w]? =some (.lst xs)):slD h lo hi (.ref w)=.ok (.ref h.length) (h++[.lst (V3 xs lo hi)]):=by
 have:rdL h w=some xs:=by unfold rdL;rw[hw]
 simp only[slD,this,o5]
theorem a2h(hw:h[w]? =some (.lst xs)):biD .tuple h [.ref w]=.ok (.tup xs) h:=by
 have:rdL h w=some xs:=by unfold rdL;rw[hw]
 simp only[biD,hw,this]
variable{x:Str}{wy:Str}
section
variable{ct:CT}{F:Nat->Option Fn}(W:PF F)
include W
theorem a3n{k:Nat}{H:HD}{a b:Str}{v:Int}(A:HallAt h n H)(hw:h[w]? =some (.lst [.str x,.str a,.str b]))(ha:g9 a=true)(hal:a.length<=100000)(hb:U8 b=some v):
 b0 ct F (k+3) 17 [.ref n,.ref w] h=match due (decide (a∈H.shapes.map (·.1))) true (decide ((60:Int)<=(H.shapes.length:Int))) with
  |some f=>.ok (.str f) h
  |none=>.ok .non (h.set (n+1) (.dict (kd (H.shapes++[(a,.int v)])))):=by
 obtain⟨hv,hbl,_,_⟩:=a2t hb
 have hbn:a1S b=true:=by rw[a2Q,hb];rfl
 rw[i6 W.f17 rfl];simp only[O1];rw[gc0];simp_arith[A9 hw,op2,a1g,eqS,B0 1 1 rfl hw rfl,B0 2 2 rfl hw rfl,L4 W hal,K1 W (show b.length<=100000 by omega),ha,hbn,A.fld1,a0B A.c1,a4Q A.c1,E8,C9 W,a0e,a7i hbl hv,Int.cast_ofNat_Int,decide_true,Bool.not_true]
 cases hd:due (decide (a∈H.shapes.map (·.1))) true (decide ((60:Int)<=(H.shapes.length:Int))) with
 |some f=>simp_arith[Option.isNone_some,Y6]
 |none=>
  obtain⟨d1,_,d2⟩:=a0d hd;have d2:=of_decide_eq_false d2;simp_arith[Option.isNone_none,Y9 A.c1 (of_decide_eq_false d1) (show _<16777216 by omega),Y6]
theorem a2b{k:Nat}{H:HD}{a b:Str}(A:HallAt h n H)(hw:h[w]? =some (.lst [.str x,.str a,.str b]))(ha:g9 a=true)(hal:a.length<=100000)(hb:b="on"∨b="off"):
 b0 ct F (k+3) 25 [.ref n,.ref w] h=match due (decide (a∈H.features.map (·.1))) true (decide ((10:Int)<=(H.features.length:Int))) with
  |some f=>.ok (.str f) h
  |none=>.ok .non (h.set (n+7) (.dict (kd (H.features++[(a,.bl (decide (b="on")))])))):=by
 have hin:inD (.str b) [.str "on",.str "off"]=true:=by
  rcases hb with rfl|rfl<;>decide
 rw[i6 W.f25 rfl];simp only[K3];rw[gc0];simp_arith[A9 hw,op2,a1g,K0,eqS,B0 1 1 rfl hw rfl,B0 2 2 rfl hw rfl,L4 W hal,ha,A.fld7,a0B A.c7,a4Q A.c7,E8,C9 W,a0e,hin,B7,all_cons,all_nil,Bool.and_self,and_self,bne_self_eq_false,Int.cast_ofNat_Int,decide_true,Bool.not_true]
 cases hd:due (decide (a∈H.features.map (·.1))) true (decide ((10:Int)<=(H.features.length:Int))) with
 |some f=>simp_arith[Option.isNone_some,Y6]
 |none=>
  obtain⟨d1,_,d2⟩:=a0d hd;have d2:=of_decide_eq_false d2;simp_arith[Option.isNone_none,op2,K0,eqS,B0 2 2 rfl hw rfl,A.fld7,Y9 A.c7 (of_decide_eq_false d1) (show _<16777216 by omega),Y6]
theorem a0C{k:Nat}{H:HD}(A:HallAt h n H)(hw:h[w]? =some (.lst (ws.map .str)))(hl:ws.length<=SL):b0 ct F (k+1) 15 [.ref n,.ref w] h=.ok (.bl (ws.all fun x=>decide (x∈H.shapes.map (·.1)))) h:=by
 rw[i6 W.f15 rfl];simp only[O4];simp_arith[];rw[v7 (l:=ws.map D.str) (g:=[(w,.lst (ws.map D.str))]) (h1:=h) ?_ (by simp[gOk,hw]) (fun d=>match d with|.str x=>.bl (decide (x∈H.shapes.map (·.1)))|_=>.non) (fun d=>[some d,~~~n]) ?_ (by simpa using hl)]
 · have e:(ws.map D.str).map (fun d=>match d with|D.str x=>D.bl (decide (x∈H.shapes.map (·.1)))|_=>D.non)=ws.map fun x=>D.bl (decide (x∈H.shapes.map (·.1))):=by
    rw[aH];rfl
   rw[e];simp_arith[a5w];exact gc1 rfl
 · simp_arith[V6,hw]
 · intro x hx;obtain⟨y,hy,rfl⟩:=ak.mp hx;refine⟨rfl,?_⟩
   simp_arith[op2,A.fld1,a0B A.c1]
noncomputable def a6k:List (D×D):=[(.str "none",.int 1),(.str "clear",.int 1),(.str "back",.int 2),(.str "both",.int 4)]
theorem a3t{k:Nat}{a j:Str}{d9:List Str}(hw:h[w]? =some (.lst (.str x::.str a::.str j::.str wy::d9.map .str)))(ha:g9 a=true)(hal:a.length<=100000)(hj:k8 a6k (.str j)=some (.int d9.length))(hy:inD (.str wy) [.str "left",.str "right",.str "either"]=true)
 (hr:d9.all g9=true) (hrl:∀y∈d9,y.length<=100000) (hrs:d9.length<=100000):b0 ct F (k+4) 21 [.ref w] h=.ok (.bl true) h:=by
 rw[i6 W.f21 rfl];simp only[E6]
 have e4:∀xs,V3 xs (some 4) none=xs.drop 4:=V2 4
 have hn:b0 ct F (k+3) 9 [.ref h.length] (h++[.lst (d9.map .str)])=.ok (.bl (d9.all g9)) (h++[.lst (d9.map .str)]):=a1w W b6 (by show _<=16777216;omega) hrl
 have hlen:decide (((d9.length+1+1+1+1:Nat):Int)<4)=false:=bB (by omega)
 unfold a6k at hj;simp_arith[A9 hw,op2,E8,hlen,aa,B0 1 1 rfl hw rfl,B0 2 2 rfl hw rfl,B0 3 3 rfl hw rfl,L4 W hal,ha,E9,Option.isSome_some,hj,hy,B7,all_cons,all_nil,Bool.and_self,and_self,bne_self_eq_false,Bool.not_true,V4 hw,e4,drop_succ_cons,drop_zero,A9 b6,B0 2 2 rfl (b5 (g:=[.lst (d9.map .str)]) hw) rfl,K0,eqS,decide_true,hn,hr];exact gc1 rfl
theorem a2B{k:Nat}{H:HD}{a j:Str}{d9:List Str}(A:HallAt h n H)(hw:h[w]? =some (.lst (.str x::.str a::.str j::.str wy::d9.map .str)))(ha:g9 a=true)(hal:a.length<=100000)(hj:k8 a6k (.str j)=some (.int d9.length))(hy:inD (.str wy) [.str "left",.str "right",.str "either"]=true)
 (hr:d9.all g9=true) (hrl:∀y∈d9,y.length<=100000) (hrs:d9.length<=100000):
 b0 ct F (k+5) 22 [.ref n,.ref w] h=match due (decide (a∈H.letters.map (·.1))) (d9.all fun x=>decide (x∈H.shapes.map (·.1))) (decide ((24:Int)<=(H.letters.length:Int))) with
  |some f=>.ok (.str f) (h++[.lst (d9.map .str)])
  |none=>.ok .non ((h++[Cell.lst (d9.map .str)]).set (n+4) (.dict (kd (H.letters++[(a,D.tup [.str j,.str wy,.tup (d9.map .str)])])))):=by
 rw[i6 W.f22 rfl];simp only[L9];rw[gc0]
 have e4:∀xs,V3 xs (some 4) none=xs.drop 4:=V2 4
 have A1:=A.app [.lst (d9.map .str)];have hw1:=b5 (g:=[.lst (d9.map .str)]) hw;have hs:=a0C (ct:=ct) (k:=k+3) W A1 (b6 (h:=h)) (by show _<=16777216;omega)
 simp_arith[a3t W hw ha hal hj hy hr hrl hrs,Bool.not_true,B0 1 1 rfl hw rfl,V4 hw,e4,drop_succ_cons,drop_zero,op2,A1.fld4,a0B A1.c4,a4Q A1.c4,E8,hs,C9 W,a0e]
 cases hd:due (decide (a∈H.letters.map (·.1))) (d9.all fun x=>decide (x∈H.shapes.map (·.1))) (decide ((24:Int)<=(H.letters.length:Int))) with
 |some f=>simp_arith[Option.isNone_some,Y6]
 |none=>
  obtain⟨d1,_,d2⟩:=a0d hd;have d2:=of_decide_eq_false d2;simp_arith[Option.isNone_none,B0 2 2 rfl hw1 rfl,B0 3 3 rfl hw1 rfl,a2h b6,A1.fld4,Y9 A1.c4 (of_decide_eq_false d1) (show _<16777216 by omega),Y6]
theorem a3p{k:Nat}{H:HD}{a:Str}{d9:List Str}(A:HallAt h n H)(hw:h[w]? =some (.lst (.str x::.str a::d9.map .str)))(ha:g9 a=true)(hal:a.length<=100000)
 (hr:d9.all g9=true) (hrl:∀y∈d9,y.length<=100000) (hr1:1<=d9.length) (hr2:d9.length<=20):
 b0 ct F (k+5) 24 [.ref n,.ref w] h=match due (decide (a∈H.classes.map (·.1))) (d9.all fun x=>decide (x∈H.shapes.map (·.1))) (decide ((20:Int)<=(H.classes.length:Int))) with
  |some f=>.ok (.str f) (h++[.lst (d9.map .str),.lst (.str a::d9.map .str)])
  |none=>.ok .non ((h++[Cell.lst (d9.map .str),Cell.lst (.str a::d9.map .str)]).set (n+6) (.dict (kd (H.classes++[(a,D.tup (d9.map .str))])))):=by
 rw[i6 W.f24 rfl];simp only[O3];rw[gc0]
 have e1:∀xs,V3 xs (some 1) none=xs.drop 1:=V2 1
 have e2:∀xs,V3 xs (some 2) none=xs.drop 2:=V2 2
 have hw1:=b5 (g:=[.lst (d9.map .str)]) hw;have hw2:=b5 (g:=[.lst (.str a::d9.map .str)]) hw1;have A2:=(A.app [.lst (d9.map .str)]).app [.lst (.str a::d9.map .str)]
 have hq:(h++[Cell.lst (d9.map .str)]++[.lst (.str a::d9.map .str)])[h.length]? =some (.lst (d9.map .str)):=b5 b6
 have hs:=a0C (ct:=ct) (k:=k+3) W A2 hq (by show _<=16777216;omega)
 have hn:b0 ct F (k+4) 9 [.ref (h++[Cell.lst (d9.map .str)]).length] (h++[Cell.lst (d9.map .str)]++[.lst (.str a::d9.map .str)])=.ok (.bl true) (h++[Cell.lst (d9.map .str)]++[.lst (.str a::d9.map .str)]):=by
  have:=a1w (ct:=ct) (n:=k+1) (ws:=a::d9) W (b6 (h:=h++[Cell.lst (d9.map .str)]) (c:=.lst (.str a::d9.map .str))) (by show _<=16777216;simp;omega) (fun y hy=>by
   rcases aE.mp hy with rfl|hy
   · exact hal
   · exact hrl y hy)
  rw[all_cons,ha,hr] at this;exact this
 have l1:decide ((1:Int)<=(d9.length:Int))=true:=bm (by omega)
 have l2:decide ((d9.length:Int)<=20)=true:=bm (by omega)
 simp_arith[V4 hw,e2,drop_succ_cons,drop_zero,A9 b6,aa,op2,E8,l1,l2,Bool.not_true,V4 hw1,e1,hn,B0 1 1 rfl hw2 rfl,A2.fld6,a0B A2.c6,a4Q A2.c6,hs,C9 W,a0e];rw[show h++[Cell.lst (d9.map D.str),.lst (.str a::d9.map .str)]=h++[Cell.lst (d9.map .str)]++[.lst (.str a::d9.map .str)] by simp]
 cases hd:due (decide (a∈H.classes.map (·.1))) (d9.all fun x=>decide (x∈H.shapes.map (·.1))) (decide ((20:Int)<=(H.classes.length:Int))) with
 |some f=>simp_arith[Option.isNone_some,Y6]
 |none=>
  obtain⟨d1,_,d2⟩:=a0d hd;have d2:=of_decide_eq_false d2;simp_arith[Option.isNone_none,a2h hq,A2.fld6,Y9 A2.c6 (of_decide_eq_false d1) (show _<16777216 by omega),Y6]
end
theorem O0{l:AH}{i:Nat}:(h++l)[h.length+i]? =l[i]? :=by
 rw[aq (by omega)]
 congr 1;omega
theorem b1J{l:AH}:(h++l)[h.length]? =l[0]? :=O0 (i:=0)
variable{core:List Str}{aft:List Str}{told:List Str}{b:Nat}
theorem b4X{a:Nat}{ys:List D}(h1:g[a]? =some (.lst xs))(h2:g[b]? =some (.lst ys))(hl:xs.length+ys.length<=100000):Y3 g (.ref a) (.ref b)=.ok (.ref g.length) (g++[.lst (xs++ys)]):=by
 simp only[Y3,h1,h2];rw[ay (by show _<=16777216;omega)]
 rfl
theorem b7t:(true !=false)=true:=rfl
variable{y:Str}
section
variable{ct:CT}{F:Nat->Option Fn}(W:PF F)
include W
theorem a4G{k:Nat}{a b:Str}{i j:Int}(hw:h[w]? =some (.lst [.str a,.str b]))(ha:a0z a=some i)(hb:a0z b=some j):b0 ct F (k+1) 16 [.ref w] h=.ok (.tup [.int i,.int j]) h:=by
 obtain⟨a1,a2⟩:=a2o ha;obtain⟨b1,b2⟩:=a2o hb;rw[i6 W.f16 rfl];simp only[a0r];simp_arith[B0 0 0 rfl hw rfl,B0 1 1 rfl hw rfl,a7i a2 a1,a7i b2 b1];exact K2 rfl
theorem a1c{k:Nat}{a sd:Str}{c:Int}(hw:h[w]? =some (.lst (.str x::.str a::.str sd::ws.map .str)))(ha:g9 a=true)(hal:a.length<=100000)(hs:inD (.str sd) [.str "above",.str "below"]=true)(hc:c=ws.length)(hn:ws.all a3F=true)(hwl:∀y∈ws,y.length<=100000)(hl:ws.length<=100000):b0 ct F (k+5) 18 [.ref w,.int c] h=.ok (.bl true) h:=by
 subst hc;rw[i6 W.f18 rfl];simp only[J2]
 have e3:∀xs,V3 xs (some 3) none=xs.drop 3:=V2 3
 have hg:=a3w (ct:=ct) (n:=k) (ws:=ws) W (b6 (h:=h) (c:=.lst (ws.map .str))) (by show _<=16777216;omega) hwl
 rw[hn] at hg
 have hd:decide (((ws.length+1+1+1:Nat):Int)=3+(ws.length:Int))=true:=bm (by omega)
 simp_arith[A9 hw,aa,op2,Y3,a1g,eqS,hd,Bool.not_true,B0 1 1 rfl hw rfl,B0 2 2 rfl hw rfl,L4 W hal,ha,hs,B7,all_cons,all_nil,Bool.and_self,and_self,b7t,V4 hw,e3,drop_succ_cons,drop_zero,hg];exact gc1 rfl
theorem a3o{k:Nat}{H:HD}{a sd b c:Str}{i j:Int}(A:HallAt h n H)(hw:h[w]? =some (.lst [.str x,.str a,.str sd,.str b,.str c]))(ha:g9 a=true)(hal:a.length<=100000)(hs:inD (.str sd) [.str "above",.str "below"]=true)(hb:a0z b=some i)(hc:a0z c=some j)(hl:H.points.length<=100000):
 ∃h',b0 ct F (k+6) 20 [.ref n,.ref w] h=.ok (Y6 (due (decide ((a,sd)∈H.points.map (·.1))) (decide (a∈H.shapes.map (·.1))) false)) h'/\Fr n h h'∧
  HallAt h' n (if(due (decide ((a,sd)∈H.points.map (·.1))) (decide (a∈H.shapes.map (·.1))) false).isNone then{H with points:=H.points++[((a,sd),.tup [.int i,.int j])]} else H):=by
 obtain⟨_,b2⟩:=a2o hb;obtain⟨_,c2⟩:=a2o hc
 have hf:b0 ct F (k+5) 18 [.ref w,.int 2] h=.ok (.bl true) h:=a1c (ws:=[b,c]) W hw ha hal hs rfl (by simp[a5L,hb,hc]) (fun y hy=>by
  rcases aE.mp hy with rfl|hy
  · omega
  · rw[aP] at hy;subst hy;omega) (by simp)
 rw[i6 W.f20 rfl];simp only[O2];rw[gc0];simp_arith[hf,Bool.not_true,B0 1 1 rfl hw rfl,B0 2 2 rfl hw rfl,op2,A.fld3,b8U A.c3,A.fld1,a0B A.c1,C9 W,a0e];generalize hd:due (decide ((a,sd)∈H.points.map (·.1))) (decide (a∈H.shapes.map (·.1))) false=du
 cases du with
 |some f=>
  simp_arith[Option.isNone_some,Y6];exact⟨h,rfl,Fr.refl n h,A⟩
 |none=>
  obtain⟨d1,_,_⟩:=a0d hd
  have e35:V3 [.str x,.str a,.str sd,.str b,.str c] (some 3) (some 5)=[.str b,.str c]:=a1G 3 5 _ (by decide) (by simp)
  have A1:=A.app [.lst [.str b,.str c]];simp_arith[Option.isNone_none,V4 hw,e35,a4G W (b6 (h:=h)) hb hc,A1.fld3,a8P A1.c3 (of_decide_eq_false d1) (show _<16777216 by omega),Y6]
  exact⟨_,rfl,(Fr.app n h _).trans (Fr.set (by omega) (by omega)),A1.s3 _⟩
end
variable{text:Str}
section
variable{ct:CT}{F:Nat->Option Fn}
def a0h(ct:CT)(F:Nat->Option Fn)(d:Nat)(H:HD)(ws:List Str)(du:Option Str)(H':HD):Prop:=∀(h:AH) (n w:Nat),HallAt h n H->h[w]? =some (.lst (ws.map .str))->∃h',b0 ct F d 13 [.ref n,.ref w] h=.ok (Y6 du) h'/\Fr n h h'/\HallAt h' n H'
inductive Reads(ct:CT)(F:Nat->Option Fn)(d:Nat):HD->List Str->HD->Prop
 |nil (H:HD):Reads ct F d H [] H
 |take {H H1 H':HD} {row:Str} {d9:List Str} (hl:row.length<=100000) (hw:L6 row≠[]) (k:a0h ct F d H (L6 row) none H1) (t:Reads ct F d H1 d9 H'):Reads ct F d H (row::d9) H'
def rhB:Ss:=(.cons (.set 4 (.call 1 (.o (.v 3)))) (.o (.iff (.cmp .gt (.bi .len (.o (.v 4))) (.i 0)) (.cons (.set 5 (.call 13 (.cons (.v 1) (.o (.v 4))))) (.o (.iff (.notN (.v 5)) (.o .bad) .nil))) .nil)))
variable(W:PF F)
include W
theorem b3R{d:Nat}{R:List Str}{H H':HD}{rows:List Str}(q:Reads ct F (d+1) H rows H'):∀(p:Nat) (h:AH) (e2 e3 e4 e5:Option D),HallAt h n H->h[n+9]? =some (.lst (R.map .str))→
 ∃h',Fr n h h'/\HallAt h' n H'/\∃a2 a3 a4 a5,V0 [(n+9,.lst (R.map .str))] (.tp (.cons (.nm 2) (.cons (.nm 3) .nil))) (exs ct (b0 ct F (d+1)) rhB) (x4 p (rows.map D.str)) [some (.str text),~~~n,e2,e3,e4,e5] h=.ok (.nx [some (.str text),~~~n,a2,a3,a4,a5]) h':=by
 have step:∀{h:AH} {e2 e3 e4 e5:Option D} {row:Str} {d9:List D} {p:Nat},h[n+9]? =some (.lst (R.map .str))→
  V0 [(n+9,.lst (R.map .str))] (.tp (.cons (.nm 2) (.cons (.nm 3) .nil))) (exs ct (b0 ct F (d+1)) rhB) (.tup [.int p,.str row]::d9) [some (.str text),~~~n,e2,e3,e4,e5] h=
  (exs ct (b0 ct F (d+1)) rhB [some (.str text),~~~n,some (.int p),some (.str row),e4,e5] h).bind fun o h'=>match o with
   |.nx env''=>V0 [(n+9,.lst (R.map .str))] (.tp (.cons (.nm 2) (.cons (.nm 3) .nil))) (exs ct (b0 ct F (d+1)) rhB) d9 env'' h'
   |.rt d=>.ok (.rt d) h':=fun{h e2 e3 e4 e5 row d9 p} hs=>by
  rw[V0,ay (by simp[gOk,hs])]
  rfl
 induction q with
 |nil H=>
  intro p h e2 e3 e4 e5 A hs;refine⟨h,Fr.refl n h,A,e2,e3,e4,e5,?_⟩
  rw[map_nil,x4,V0,ay (by simp[gOk,hs])]
 | @take H H1 H' row d9 hl hw k t ih=>
  intro p h e2 e3 e4 e5 A hs;obtain⟨h1,k1,k2,k3⟩:=k (h++[.lst ((L6 row).map .str)]) n h.length (A.app _) b6
  have hs1:h1[n+9]? =some (.lst (R.map .str)):=by
   have hs0:=b5 (g:=[Cell.lst ((L6 row).map .str)]) hs;rw[k2.get (n+9) (ac.mp hs0).1 (by omega)]
   exact hs0
  obtain⟨h',f1,A',e2',e3',e4',e5',m⟩:=ih (p+1) h1 (some (.int p)) (some (.str row)) (~~~h.length) (some .non) k3 hs1
  have hp:decide ((0:Int)<(((L6 row).map D.str).length:Int))=true:=bm (by
   cases hq:L6 row with
   |nil=>exact absurd hq hw
   |cons a b=>simp)
  have e:exs ct (b0 ct F (d+1)) rhB [some (.str text),~~~n,some (.int p),some (.str row),e4,e5] h=.ok (.nx [some (.str text),~~~n,some (.int p),some (.str row),~~~h.length,some .non]) h1:=by
   simp only[rhB];simp_arith[a5C W hl,A9 b6,op2,E8,hp,k1,Y6,decide_true,Bool.not_true]
  refine⟨h',((Fr.app n h _).trans k2).trans f1,A',e2',e3',e4',e5',?_⟩
  rw[map_cons,x4,step hs,e,b9];exact m
theorem b4o(f:Fr h.length h h'):h'.take h.length=h:=by
 refine ext_getElem? fun i=>?_
 by_cases hi:i<h.length
 · rw[bE hi,f.get i hi (.inl hi)]
 · rw[aZ (by simp;omega),aZ (by omega)]
theorem a4D{d:Nat}{H':HD}(hin:ct.init 6=32)(ht:text.length<=10000000)(q:Reads ct F (d+1) {} (Txt.split text "\n") H'):
 ∃h',h'.take h.length=h/\HallAt h' h.length H'/\b0 ct F (d+2) 12 [.str text] h=.ok (.ref h.length) h':=by
 rw[i6 W.f12 rfl]
 have hf:T3=⟨1,6,0,(.cons (.set 1 (.mk 6 .nil)) (.cons (.for (.tp (.cons (.nm 2) (.cons (.nm 3) .nil))) (.enum (.mt .split (.v 0) (.o (.s "\n")))) rhB) (.o (.ret (.v 1)))))⟩:=rfl
 simp only[hf];rw[gc0]
 have A0:HallAt (h++[.obj 6 (a1E h.length),.dict [],.dict [],.dict [],.dict [],.lst [],.dict [],.dict [],.lst []]) h.length {}:=⟨b1J,O0,O0,O0,O0,O0,O0,O0,O0⟩
 have hlen:(h++[Cell.obj 6 (a1E h.length),.dict [],.dict [],.dict [],.dict [],.lst [],.dict [],.dict [],.lst []]).length=h.length+9:=by simp
 have hnew:=b1D (ct:=ct) (n:=d) (h:=h) W;generalize hg:h++[Cell.obj 6 (a1E h.length),.dict [],.dict [],.dict [],.dict [],.lst [],.dict [],.dict [],.lst []]=g at*
 have A1:=A0.app [.lst ((Txt.split text "\n").map .str)]
 have hs:(g++[Cell.lst ((Txt.split text "\n").map .str)])[h.length+9]? =some (.lst ((Txt.split text "\n").map .str)):=by rw[←hlen];exact b6
 obtain⟨h',f1,A',e2,e3,e4,e5,m⟩:=b3R (d:=d) (R:=Txt.split text "\n") (text:=text) W q 0 (g++[.lst ((Txt.split text "\n").map .str)]) none none none none A1 hs
 have fr:Fr h.length h h':=by
  refine Fr.trans ?_ f1
  rw[←hg];exact(Fr.app _ h _).trans (Fr.app _ _ _)
 refine⟨h',b4o W fr,A',?_⟩
 have hsp:mtD .split g (.str text) [.str "\n"]=.ok (.ref g.length) (g++[.lst ((Txt.split text "\n").map .str)]):=by
  simp only[mtD];rw[ay ⟨by decide,by show _<=16777216;omega⟩]
  rfl
 have hen:Y4 (g++[.lst ((Txt.split text "\n").map .str)]) (.ref g.length)=.ok (x4 0 ((Txt.split text "\n").map .str),[(h.length+9,.lst ((Txt.split text "\n").map .str))]) (g++[.lst ((Txt.split text "\n").map .str)]):=by
  simp only[Y4,hlen,hs]
 simp_arith[hin,hnew,mtT,hsp,hen,m]
end
noncomputable def dg(n:Nat):Str:=Str.ofString (toString (n:Int))
def lt(i:Nat):Nat:=97+i
theorem b2A:∀i:Fin 26,(cd abc)[i.val]? =some (lt i.val)/\Q6 (lt i.val)=true:=by decide+kernel
def nm(stem:Str)(k:Nat):Str:=(⟨#[lt (7*k%26)]⟩++stem)++dg (k*13%61)
variable{stem:Str}
theorem a2U(h:g9 z=true):1<=z.length/\z.length<=12:=by
 unfold g9 at h;rw[ae,ae] at h;exact⟨aw h.1.1,aw h.1.2⟩
section
variable{ct:CT}{F:Nat->Option Fn}(W:PF F)
include W
section
variable{k:Nat}{d9:List D}
theorem a9Q(hw:h[w]? =some (.lst (.str "shape"::d9))):b0 ct F (k+1) 13 [.ref n,.ref w] h=b0 ct F k 17 [.ref n,.ref w] h:=by
 rw[i6 W.f13 rfl];simp only[D0];rw[gc0];simp_arith[B0 0 0 rfl hw rfl,op2,K0,eqS,decide_true,decide_false];generalize b0 ct F k 17 [.ref n,.ref w] h=r
 cases r<;>simp_arith[]
theorem a9R(hw:h[w]? =some (.lst (.str "point"::d9))):b0 ct F (k+1) 13 [.ref n,.ref w] h=b0 ct F k 20 [.ref n,.ref w] h:=by
 rw[i6 W.f13 rfl];simp only[D0];rw[gc0];simp_arith[B0 0 0 rfl hw rfl,op2,K0,eqS,decide_true,decide_false];generalize b0 ct F k 20 [.ref n,.ref w] h=r
 cases r<;>simp_arith[]
theorem a8K(hw:h[w]? =some (.lst (.str "letter"::d9))):b0 ct F (k+1) 13 [.ref n,.ref w] h=b0 ct F k 22 [.ref n,.ref w] h:=by
 rw[i6 W.f13 rfl];simp only[D0];rw[gc0];simp_arith[B0 0 0 rfl hw rfl,op2,K0,eqS,decide_true,decide_false];generalize b0 ct F k 22 [.ref n,.ref w] h=r
 cases r<;>simp_arith[]
theorem a9S(hw:h[w]? =some (.lst (.str "class"::d9))):b0 ct F (k+1) 13 [.ref n,.ref w] h=b0 ct F k 24 [.ref n,.ref w] h:=by
 rw[i6 W.f13 rfl];simp only[D0];rw[gc0];simp_arith[B0 0 0 rfl hw rfl,op2,K0,eqS,decide_true,decide_false];generalize b0 ct F k 24 [.ref n,.ref w] h=r
 cases r<;>simp_arith[]
theorem a6I(hw:h[w]? =some (.lst (.str "feature"::d9))):b0 ct F (k+1) 13 [.ref n,.ref w] h=b0 ct F k 25 [.ref n,.ref w] h:=by
 rw[i6 W.f13 rfl];simp only[D0];rw[gc0];simp_arith[B0 0 0 rfl hw rfl,op2,K0,eqS,decide_true,decide_false];generalize b0 ct F k 25 [.ref n,.ref w] h=r
 cases r<;>simp_arith[]
end
def b9K{α:Type}(o:Option Str)(a b:α):α:=match o with
 |none=>a
 |some _=>b
variable{d:Nat}{H:HD}
theorem a9T{a b:Str}{v:Int}(ha:g9 a=true)(hb:U8 b=some v):a0h ct F (d+9) H [("shape":Str),a,b] (due (decide (a∈H.shapes.map (·.1))) true (decide ((60:Int)<=(H.shapes.length:Int))))
 (b9K (due (decide (a∈H.shapes.map (·.1))) true (decide ((60:Int)<=(H.shapes.length:Int)))) {H with shapes:=H.shapes++[(a,.int v)]} H):=by
 intro h n w A hw
 have:=a3n (ct:=ct) (k:=d+5) W A hw ha (by have:=a2U ha;omega) hb
 rw[a9Q W hw,this];generalize due (decide (a∈H.shapes.map (·.1))) true (decide ((60:Int)<=(H.shapes.length:Int)))=du
 cases du with
 |none=>exact⟨_,rfl,Fr.set (by omega) (by omega),A.s1 _⟩
 |some f=>exact⟨_,rfl,Fr.refl n h,A⟩
theorem a6J{a b:Str}(ha:g9 a=true)(hb:b="on"∨b="off"):a0h ct F (d+9) H [("feature":Str),a,b] (due (decide (a∈H.features.map (·.1))) true (decide ((10:Int)<=(H.features.length:Int))))
 (b9K (due (decide (a∈H.features.map (·.1))) true (decide ((10:Int)<=(H.features.length:Int)))) {H with features:=H.features++[(a,.bl (decide (b="on")))]} H):=by
 intro h n w A hw
 have:=a2b (ct:=ct) (k:=d+5) W A hw ha (by have:=a2U ha;omega) hb
 rw[a6I W hw,this];generalize due (decide (a∈H.features.map (·.1))) true (decide ((10:Int)<=(H.features.length:Int)))=du
 cases du with
 |none=>exact⟨_,rfl,Fr.set (by omega) (by omega),A.s7 _⟩
 |some f=>exact⟨_,rfl,Fr.refl n h,A⟩
end
theorem j9(x y:Str):(x++y).length=x.length+y.length:=by rw[←o7,K8,ao,o7,o7]
theorem a9Z{i:Int}(h: -1000000000000<=i/\i<=1000000000000):a2n i=true:=by
 cases i with
 |ofNat n=>
  refine Nat.ble_eq_true_of_le ?_
  have:(n:Int)<=1000000000000:=h.2
  omega
 |negSucc n=>
  refine Nat.ble_eq_true_of_le ?_
  have:=h.1
  rw[Int.negSucc_eq] at this;omega
theorem U6(h:n<=1000000):N5 (n:Int)=true:=Nat.ble_eq_true_of_le (by omega)
theorem W0{i j:Int}(hj: -1000000000000<=j/\j<=1000000000000):U7 h (.int i) (.int j)=.ok (.int (i*j)) h:=by
 simp only[U7];rw[ay (by rw[a9Z hj,Bool.or_true])]
theorem a6W{i j:Int}(hj:0<j):u0 h (.int i) (.int j)=.ok (.int (i%j)) h:=by
 simp only[u0];rw[ay hj]
theorem b7l{i j:Int}(hj:0<j)(h2:j<1073741824):D3 h (.int i) (.int j)=.ok (.int (i/j)) h:=by
 simp only[D3];rw[ay ⟨hj,h2⟩]
theorem l7{i j:Int}:Y3 h (.int i) (.int j)=.ok (.int (i+j)) h:=rfl
theorem o0(hl:x.length+y.length<=100000):Y3 h (.str x) (.str y)=.ok (.str (x++y)) h:=by
 simp only[Y3];rw[ay (by show _<=16777216;omega)]
theorem G7(b:Nat)(hb:0<b){a:Nat}:u0 h (.int (a:Int)) (.int (b:Int))=.ok (.int ((a%b:Nat):Int)) h:=by
 rw[a6W (by omega)]
 congr 2
theorem R7(b:Nat)(hb:0<b)(h2:b<1073741824){a:Nat}:D3 h (.int (a:Int)) (.int (b:Int))=.ok (.int ((a/b:Nat):Int)) h:=by
 rw[b7l (by omega) (by omega)]
 congr 2
noncomputable def mx(c j:Int):Int:=(c%2305843009213693951+1)*(j*j+48271)*40692%2147483399
theorem b6u(c j:Int):0<=mx c j:=Int.emod_nonneg _ (by decide)
variable{sep:Str}{ts:List Str}
theorem a4U(h:(ts.map (·.length)).sum+ts.length*sep.length<=1000000):JoinOk sep ts=true:=by
 unfold JoinOk;rw[StrLaws.joinTotal];simp only[Builtin.Str.tooLong,Bool.not_eq_true',decide_eq_false_iff_not]
 have:sizeLine=16777216:=by decide
 omega
theorem a6A:∀ps:List Str,cd (Str.join "" ps)=(ps.map cd).flatten
 |[]=>rfl
 |[x]=>by show cd x=_;simp
 |x::y::r=>by
  show cd (x++Str.ofString ""++Str.join "" (y::r))=_
  rw[K8,K8,a6A (y::r),show cd (Str.ofString "")=[] from rfl,bh];rfl
theorem b7q(n:Nat)(x:Str):cd (E1 n x)=(List.replicate n (cd x)).flatten:=by
  show(E1 n x).cps.toList=_
  unfold E1;rw[foldl_app'];simp[cd]
where
  foldl_app' {x:Array Nat}:∀{n:Nat} {a:Array Nat},((List.replicate n x).foldl (· ++ ·) a).toList=a.toList++(List.replicate n x.toList).flatten
    |0,a=>by simp
    |n+1,a=>by rw[replicate_succ,foldl_cons,foldl_app',replicate_succ,flatten_cons];simp
theorem a8A(ts:List Str):cd (Txt.join "" ts)=(ts.map cd).flatten:=by
 show cd (Builtin.Str.glued "" _)=_
 rw[StrLaws.glued_eq_join];exact a6A ts
theorem b8j{p:Nat}(h:p<=z.length):cd (Txt.slice z none (some (p:Int)))=(cd z).take p:=by
 have e:Txt.slice z none (some (p:Int))=⟨((z.cps.toList.drop (0:Int).toNat).take ((p:Int)-0).toNat).toArray⟩:=beq_iff_eq.mp (PyProof.Rows.slice_closes_to ⟨by omega,by have:=o7 z;show(p:Int)<=((cd z).length:Int);omega⟩)
 rw[e];simp[cd]
theorem b3a{p:Nat}(h:p<=z.length):cd (Txt.slice z (some (p:Int)) none)=(cd z).drop p:=by
 rw[PyProof.Rows.slice_from_eq (b:=z.length) (by omega) (by omega) rfl]
 show((cd z).drop ((p:Int).toNat)).take (((z.length:Int)-p).toNat)=_
 rw[Int.toNat_natCast];exact bp (by rw[bD,o7];omega)
variable{c:CF}{env:n5}{j:Nat}{f:Nat}{ns:List Int}
section
variable{ct:CT}{F:Nat->Option Fn}
theorem seq{s:S}{T:Ss}{env':n5}(e:ex ct c s env h=.ok (.nx env') h'):exs ct c (.cons s T) env h=exs ct c T env' h':=by rw[J0,e,b9]
theorem X5{k:Nat}(hF:F f=some w8)(hr:h[n]? =some (.rol (ns.map .int))):∃a,b0 ct F (k+1) f [.ref n,.int (j:Int)] h=.ok (.int a) h:=by
 rw[i6 hF rfl];simp only[w8]
 have rl:rdL h n=some (ns.map .int):=by unfold rdL;rw[hr]
 have le:biD .len h [.ref n]=.ok (.int (ns.length:Int)) h:=by simp only[biD,hr,rl,aa]
 by_cases lt:(j:Int)<(ns.length:Int)
 · have lt':j<ns.length:=by omega
   have ix:ixD h (.ref n) (.int (j:Int))=.ok (.int ns[j]) h:=by
    have:atI (ns.map D.int) (j:Int)=some (.int ns[j]):=by
     show(ixN (ns.map D.int).length (j:Int)).bind (fun j=>(ns.map D.int)[j]?)=_
     have e:ixN (ns.map D.int).length (j:Int)=some j:=by
      unfold ixN;rw[aa,ay (by omega),ay (by omega)]
      simp
     rw[e]
     show(ns.map D.int)[j]? =_
     rw[aj,af lt']
     rfl
    simp only[ixD,hr,this]
   refine⟨ns[j],?_⟩
   simp_arith[le,op2,E8,lt,decide_true,ix];exact K2 rfl
 · refine⟨0,?_⟩
   simp_arith[le,op2,E8,lt,decide_false];exact K2 rfl
theorem C1{k:Nat}{c j:Int}(hF:F f=some l0)(hj:0<=j/\j<=1000):∃M:Nat,b0 ct F (k+1) f [.int c,.int j] h=.ok (.int (M:Int)) h:=by
 obtain⟨M,hM⟩:=Int.eq_ofNat_of_zero_le (b6u c j);refine⟨M,?_⟩
 rw[←hM,i6 hF rfl];simp only[l0]
 have hjj:0<=j*j/\j*j<=1000000:=⟨Int.mul_nonneg hj.1 hj.1,by
  have:=Int.mul_le_mul hj.2 hj.2 hj.1 (by decide)
  omega⟩
 simp_arith[op2,a6W (h:=h) (i:=c) (j:=2305843009213693951) (by decide),Y3,W0 (h:=h) (i:=j) (j:=j) (by omega),W0 (h:=h) (i:=c%2305843009213693951+1) (j:=j*j+48271) (by omega),W0 (h:=h) (i:=(c%2305843009213693951+1)*(j*j+48271)) (j:=40692) (by decide),a6W (h:=h) (i:=(c%2305843009213693951+1)*(j*j+48271)*40692) (j:=2147483399) (by decide)]
 exact K2 rfl
end
variable{α:Type}
theorem W6{a:Option α}:(some a).join=a:=rfl
theorem a8D:abc.length=26:=by decide+kernel
theorem b7z:abc.length<=SL:=by rw[a8D];show 26<=16777216;omega
theorem b6y{a:Nat}(h:lt a=lt b):a=b:=by unfold lt at h;omega
theorem a7Y{i:Nat}(h:i<26):Q6 (lt i)=true:=(b2A ⟨i,h⟩).2
def nmA(f m i:Nat):Str:=E1 (m-i) ⟨#[lt f]⟩
theorem a7u(f m i:Nat):cd (nmA f m i)=List.replicate (m-i) (lt f):=by
 unfold nmA;rw[b7q]
 show(List.replicate _ [lt f]).flatten=_
 simp
noncomputable def nmB(stem:Str)(p f i:Nat):Str:=(Txt.slice stem none (some (p:Int))++⟨#[lt ((f+5*i)%26)]⟩)++Txt.slice stem (some (p:Int)) none
theorem a5o{p i:Nat}(h:p<=stem.length):cd (nmB stem p f i)=(cd stem).take p++lt ((f+5*i)%26)::(cd stem).drop p:=by
 unfold nmB;rw[K8,K8,b8j h,b3a h]
 show(cd stem).take p++[lt ((f+5*i)%26)]++(cd stem).drop p=_
 simp
theorem a0o{α β:Type}(f:α->β):∀{l:List α},l.Nodup->(∀a∈l,∀b∈l,f a=f b->a=b)->(l.map f).Nodup
 |[],_,_=>nodup_nil
 |x::r,h,hi=>by
  have h:=aY.mp h;rw[map_cons];refine aY.mpr ⟨fun m=>?_,a0o f h.2 fun a ha b hb=>hi a (.tail _ ha) b (.tail _ hb)⟩
  obtain⟨y,hy,e⟩:=ak.mp m;rw[hi y (.tail _ hy) x (.head _) e] at hy;exact h.1 hy
structure Nms(ns:List Str)(m:Nat):Prop where
 len:ns.length=m
 nd:ns.Nodup
 ok:∀n∈ns,g9 n=true
theorem c0T{m:Nat}(hf:f<26)(hm:m<13):Nms ((List.range m).map (nmA f m)) m:=by
 refine⟨by simp,a0o _ nodup_range fun a ha b hb e=>?_,fun n hn=>?_⟩
 · have ha:=aO.mp ha;have hb:=aO.mp hb;have e:=congrArg (fun z=>(cd z).length) e
   simp only[a7u,bt] at e;omega
 · obtain⟨i,hi,rfl⟩:=ak.mp hn;have hi:=aO.mp hi
   have l:(nmA f m i).length=m-i:=by rw[←o7,a7u,bt]
   unfold g9;rw[l,a7u];rw[bm (show 1<=m-i by omega),bm (show m-i<=12 by omega)]
   simp only[Bool.true_and];refine bu.mpr fun c hc=>?_
   rw[(List.mem_replicate.mp hc).2];exact a7Y hf
theorem c0S{p m:Nat}(hs:stem.length<=11)(hst:(cd stem).all Q6=true)(hp:p<=stem.length)(hm:m<=26):Nms ((List.range m).map (nmB stem p f)) m:=by
 refine⟨by simp,a0o _ nodup_range fun a ha b hb e=>?_,fun n hn=>?_⟩
 · have ha:=aO.mp ha;have hb:=aO.mp hb;have e:=congrArg cd e;rw[a5o hp,a5o hp] at e;have e:=List.append_cancel_left e
   injection e with e _
   have e:=b6y e;omega
 · obtain⟨i,hi,rfl⟩:=ak.mp hn
   have lt':((cd stem).take p++lt ((f+5*i)%26)::(cd stem).drop p).length=stem.length+1:=by
    rw[ao,length_cons,aM,bD,o7];omega
   have l:(nmB stem p f i).length=stem.length+1:=by rw[←o7,a5o hp,lt']
   unfold g9;rw[l,a5o hp,bm (show 1<=stem.length+1 by omega),bm (show stem.length+1<=12 by omega)]
   simp only[Bool.true_and];refine bu.mpr fun c hc=>?_
   rcases aK.mp hc with q|q
   · exact bu.mp hst c (List.mem_of_mem_take q)
   · rcases aE.mp q with q|q
     · rw[q];exact a7Y (Nat.mod_lt _ (by decide))
     · exact bu.mp hst c (List.mem_of_mem_drop q)
variable{e:E}
section
variable{ct:CT}{F:Nat->Option Fn}
theorem a0J{m:Nat}(hm:m<=1000000):b0n h (.int 0) (.int (m:Int))=.ok ((List.range m).map fun i=>.int ((0:Int)+(i:Nat)),[]) h:=by
 simp only[b0n];rw[ay ⟨by decide,U6 hm⟩]
 show R.ok (rngD 0 (((m:Int)-0).toNat),[]) h=_
 rw[Int.sub_zero,Int.toNat_natCast];rfl
theorem a0f{fr:List Nat}{a:E}{m:Nat}(f:Nat->D)(ha:ev ct c a env h=.ok (.int (m:Int)) h)(hm:m<=1000000)
 (hx:∀i,i<m->ev ct c e (i⁻¹::fr.map fun j=>(env[j]?).join) h=.ok (f i) h):ev ct c (.comp (.nm 0) (.rng1 a) 1 fr .yes e) env h=.ok (.ref h.length) (h++[.lst ((List.range m).map f)]):=by
 rw[v7 (l:=(List.range m).map fun i=>.int ((0:Int)+(i:Nat))) (g:=[]) (h1:=h) ?_ rfl (fun d=>match d with|.int i=>f i.toNat|_=>.non) (fun d=>some d::fr.map fun j=>(env[j]?).join) ?_ ?_]
 · congr 3;rw[aH];refine congrArg (fun g=>Cell.lst (List.map g (List.range m))) (funext fun i=>?_)
   simp
 · rw[a6q,ha,b9,a0J hm]
 · intro x hx';obtain⟨i,hi,rfl⟩:=ak.mp hx';refine⟨rfl,?_⟩
   have z:(0:Int)+(i:Nat)=((i:Nat):Int):=by omega
   rw[z,hx i (aO.mp hi)];simp
 · rw[aa,aI]
   show _<=16777216
   omega
theorem b1q{i:Nat}(hi:i<26):ixD h (.str abc) (.int (i:Int))=.ok (.str ⟨#[lt i]⟩) h:=ix_str b7z (b2A ⟨i,hi⟩).1
theorem b0b:a1b.length<=SL:=by rw[show a1b.length=36 by decide+kernel];show 36<=16777216;omega
def a1s(c i:Nat):Nat:=(cd a1b).getD ((c/16224+7*i)%36) 0
theorem a6x(c i:Nat):(cd a1b)[(c/16224+7*i)%36]? =some (a1s c i)/\Q6 (a1s c i)=true:=by
 have lt:(c/16224+7*i)%36<(cd a1b).length:=by rw[o7,show a1b.length=36 by decide+kernel];exact Nat.mod_lt _ (by decide)
 unfold a1s;rw[bA,af lt]
 exact⟨rfl,bm (bw lt)⟩
theorem Z3{k c m:Nat}(hF:F f=some k7)(hm:m<=26):∃ns,Nms ns m/\b0 ct F (k+1) f [.int (c:Int),.int (m:Int)] h=.ok (.ref h.length) (h++[.lst (ns.map .str)]):=by
 have d4:D3 h (.int (c:Int)) (.int 4)=.ok (.int ((c/4:Nat):Int)) h:=R7 4 (by decide) (by decide)
 have m26:∀(a:Nat) (h:AH),u0 h (.int (a:Int)) (.int 26)=.ok (.int ((a%26:Nat):Int)) h:=fun a h=>G7 26 (by decide)
 have m4:u0 h (.int (c:Int)) (.int 4)=.ok (.int ((c%4:Nat):Int)) h:=G7 4 (by decide)
 have d104:D3 h (.int (c:Int)) (.int 104)=.ok (.int ((c/104:Nat):Int)) h:=R7 104 (by decide) (by decide)
 have m12:u0 h (.int ((c/104:Nat):Int)) (.int 12)=.ok (.int ((c/104%12:Nat):Int)) h:=G7 12 (by decide)
 have d1248:D3 h (.int (c:Int)) (.int 1248)=.ok (.int ((c/1248:Nat):Int)) h:=R7 1248 (by decide) (by decide)
 have f26:c/4%26<26:=Nat.mod_lt _ (by decide)
 have s12:c/104%12<12:=Nat.mod_lt _ (by decide)
 rw[i6 hF rfl];simp only[k7]
 show∃ns,Nms ns m/\gcR 2 h (Q4 (exs ct (b0 ct F k) _ [c⁻¹,m⁻¹,none,none,none,none,none] h))=_
 rw[seq (env':=[c⁻¹,m⁻¹,some (.str abc),none,none,none,none]) (h':=h) (by simp_arith[])]
 rw[seq (env':=[c⁻¹,m⁻¹,some (.str abc),some (.int ((c/4%26:Nat):Int)),none,none,none]) (h':=h) (by simp_arith[op2,d4,m26])]
 generalize hf:c/4%26=f1 at f26
 by_cases hc:((c%4:Nat):Int)=0/\(m:Int)<13
 · obtain⟨h1,h2⟩:=hc
   have q0:K0 h (.int ((c%4:Nat):Int)) (.int 0)=.ok (.bl true) h:=by rw[h1];rfl
   refine⟨_,c0T (m:=m) f26 (by omega),?_⟩
   have cm:ev ct (b0 ct F k) cA [c⁻¹,m⁻¹,some (.str abc),f1⁻¹,none,none,none] h=.ok (.ref h.length) (h++[.lst ((List.range m).map fun i=>.str (nmA f1 m i))]):=by
    unfold cA;refine a0f (fun i=>.str (nmA f1 m i)) (by simp_arith[]) (by omega) fun i hi=>?_
    have sb:a5Y h (.int (m:Int)) (.int (i:Int))=.ok (.int ((m-i:Nat):Int)) h:=by
     show R.ok (D.int ((m:Int)-(i:Int))) h=_
     congr 2;omega
    have ml:U7 h (.str ⟨#[lt f1]⟩) (.int ((m-i:Nat):Int))=.ok (.str (nmA f1 m i)) h:=by
     simp only[U7]
     have l1:(⟨#[lt f1]⟩:Str).length*(((m-i:Nat):Int)).toNat<=SL:=by
      rw[Int.toNat_natCast]
      show 1*(m-i)<=16777216
      omega
     rw[ay ⟨U6 (by omega),l1⟩]
     exact congrArg (fun z=>R.ok (D.str (E1 z ⟨#[lt f1]⟩)) h) (Int.toNat_natCast _)
    simp_arith[op2,b1q f26,sb,ml,W6]
   simp_arith[op2,m4,q0,E8,h2,decide_true,cm]
   have e:((List.range m).map (nmA f1 m)).map D.str=(List.range m).map fun i=>D.str (nmA f1 m i):=by rw[aH];rfl
   rw[e];exact gc2 (by simp) (ai _) (by rw[←e];exact L5 _)
 · have tt:∀T,exs ct (b0 ct F k) (.cons (.iff (.an (.cmp .eq (.bin .mod (.v 0) (.i 4)) (.i 0)) (.cmp .lt (.v 1) (.i 13))) (.o (.ret cA)) .nil) T) [c⁻¹,m⁻¹,some (.str abc),f1⁻¹,none,none,none] h=exs ct (b0 ct F k) T [c⁻¹,m⁻¹,some (.str abc),f1⁻¹,none,none,none] h:=fun T=>by
    refine seq ?_
    by_cases h1:((c%4:Nat):Int)=0
    · have h2:¬(m:Int)<13:=fun z=>hc ⟨h1,z⟩
      have q0:K0 h (.int ((c%4:Nat):Int)) (.int 0)=.ok (.bl true) h:=by rw[h1];rfl
      simp_arith[op2,m4,q0,E8,h2,decide_false]
    · have q0:K0 h (.int ((c%4:Nat):Int)) (.int 0)=.ok (.bl false) h:=by simp only[K0,eqS,h1,decide_false]
      simp_arith[op2,m4,q0]
   rw[tt];rw[seq (env':=[c⁻¹,m⁻¹,some (.str abc),f1⁻¹,some (.int ((c/104%12:Nat):Int)),none,none]) (h':=h) (by simp_arith[op2,d104,m12])]
   generalize c/104%12=sz at s12
   have a1:((sz:Nat):Int)+1=((sz+1:Nat):Int):=by omega
   rw[seq (env':=[c⁻¹,m⁻¹,some (.str abc),f1⁻¹,sz⁻¹,some (.int ((c/1248%(sz+1):Nat):Int)),none]) (h':=h) (by simp_arith[op2,d1248,l7,a1,G7 (sz+1) (by omega)])]
   have pl:c/1248%(sz+1)<=sz:=Nat.le_of_lt_succ (Nat.mod_lt _ (by omega))
   generalize c/1248%(sz+1)=p at pl
   have cs:ev ct (b0 ct F k) cS [c⁻¹,m⁻¹,some (.str abc),f1⁻¹,sz⁻¹,p⁻¹,none] h=.ok (.ref h.length) (h++[.lst ((List.range sz).map fun i=>.str ⟨#[a1s c i]⟩)]):=by
    unfold cS;refine a0f (fun i=>.str ⟨#[a1s c i]⟩) (by simp_arith[]) (by omega) fun i hi=>?_
    have ad:Y3 h (.str abc) (.str "0123456789")=.ok (.str a1b) h:=by
     rw[o0 (by rw[a8D,show(Str.ofString "0123456789").length=10 by decide+kernel];decide)]
     rfl
    have d16:D3 h (.int (c:Int)) (.int 16224)=.ok (.int ((c/16224:Nat):Int)) h:=R7 16224 (by decide) (by decide)
    have m7:U7 h (.int 7) (.int (i:Int))=.ok (.int ((7*i:Nat):Int)) h:=by rw[W0 (by omega)];congr 2
    have a2:((c/16224:Nat):Int)+((7*i:Nat):Int)=((c/16224+7*i:Nat):Int):=by omega
    have m36:u0 h (.int ((c/16224+7*i:Nat):Int)) (.int 36)=.ok (.int (((c/16224+7*i)%36:Nat):Int)) h:=G7 36 (by decide)
    simp_arith[op2,ad,d16,m7,l7,a2,m36,ix_str b0b (a6x c i).1,W6]
   have es:((List.range sz).map fun i=>D.str ⟨#[a1s c i]⟩)=((List.range sz).map fun i=>(⟨#[a1s c i]⟩:Str)).map D.str:=by rw[aH];rfl
   rw[es] at cs;generalize hts:(List.range sz).map (fun i=>(⟨#[a1s c i]⟩:Str))=ts at cs
   have tl:ts.length=sz:=by rw[←hts];simp
   have t1:∀t∈ts,t.length=1/\(cd t).all Q6=true:=fun t ht=>by
    rw[←hts] at ht;obtain⟨i,_,rfl⟩:=ak.mp ht;exact⟨rfl,by show([a1s c i]:List Nat).all Q6=true;rw[all_cons,(a6x c i).2];rfl⟩
   have sm:∀l:List Str,(∀t∈l,t.length=1)->(l.map (·.length)).sum=l.length:=fun l=>by
    induction l with
    |nil=>intro _;rfl
    |cons x r ih=>intro hh;rw[map_cons,sum_cons,ih (fun t ht=>hh t (.tail _ ht)),hh x (.head _),length_cons];exact Nat.add_comm 1 _
   have jo:JoinOk "" ts=true:=a4U (by rw[sm ts fun t ht=>(t1 t ht).1,show(Str.ofString "").length=0 from rfl];omega)
   have jn:mtD .join (h++[.lst (ts.map .str)]) (.str "") [.ref h.length]=.ok (.str (Txt.join "" ts)) (h++[.lst (ts.map .str)]):=by
    simp only[mtD,a0l,a1x];rw[ay jo]
   have sl:(Txt.join "" ts).length=sz:=by
    rw[←o7,a8A,List.length_flatten,aH,←tl];exact(congrArg List.sum (bc fun t _=>o7 t)).trans (sm ts fun t ht=>(t1 t ht).1)
   have ss:(cd (Txt.join "" ts)).all Q6=true:=by
    rw[a8A];refine bu.mpr fun x hx=>?_
    obtain⟨q,hq,hm⟩:=List.mem_flatten.mp hx;obtain⟨t,ht,rfl⟩:=ak.mp hq;exact bu.mp (t1 t ht).2 x hm
   generalize Txt.join "" ts=stem at jn sl ss;rw[seq (env':=[c⁻¹,m⁻¹,some (.str abc),f1⁻¹,sz⁻¹,p⁻¹,some (.str stem)]) (h':=h++[.lst (ts.map .str)]) (by simp_arith[mtT,cs,jn])]
   refine⟨_,c0S (stem:=stem) (p:=p) (f:=f1) (m:=m) (by omega) ss (by omega) hm,?_⟩
   have hg:∃t,h++[Cell.lst (ts.map .str)]=h++t:=⟨_,rfl⟩
   have tk:(h++[Cell.lst (ts.map D.str)]).length=h.length+1:=by simp
   have wS:stem.length<=SL:=by show _<=16777216;omega
   have cm:∀g,ev ct (b0 ct F k) cB [c⁻¹,m⁻¹,some (.str abc),f1⁻¹,sz⁻¹,p⁻¹,some (.str stem)] g=.ok (.ref g.length) (g++[.lst ((List.range m).map fun i=>.str (nmB stem p f1 i))]):=fun g=>by
    unfold cB;refine a0f (fun i=>.str (nmB stem p f1 i)) (by simp_arith[]) (by omega) fun i hi=>?_
    have m5:U7 g (.int 5) (.int (i:Int))=.ok (.int ((5*i:Nat):Int)) g:=by rw[W0 (by omega)];congr 2
    have a2:((f1:Nat):Int)+((5*i:Nat):Int)=((f1+5*i:Nat):Int):=by omega
    have l1:=Txt.slice_le stem none (some (p:Int));have l2:=Txt.slice_le stem (some (p:Int)) none
    have x1:(⟨#[lt ((f1+5*i)%26)]⟩:Str).length=1:=rfl
    simp_arith[W6,slD,ay wS,op2,m5,l7,a2,m26,b1q (h:=g) (i:=(f1+5*i)%26) (Nat.mod_lt _ (by decide)),o0 (h:=g) (x:=Txt.slice stem none (some (p:Int))) (y:=⟨#[lt ((f1+5*i)%26)]⟩) (by omega),o0 (h:=g) (x:=Txt.slice stem none (some (p:Int))++⟨#[lt ((f1+5*i)%26)]⟩) (y:=Txt.slice stem (some (p:Int)) none) (by rw[j9];omega)]
    rfl
   simp_arith[cm]
   have e:((List.range m).map (nmB stem p f1)).map D.str=(List.range m).map fun i=>D.str (nmB stem p f1 i):=by rw[aH];rfl
   rw[e,aA];exact gc2 (by simp) (by simp) (by rw[←e];exact L5 _)
end
structure Pf(h0 h:AH):Prop where
 len:h0.length<=h.length
 get:∀i,i<h0.length->h[i]? =h0[i]?
theorem Pf.refl(h:AH):Pf h h:=⟨ai _,fun _ _=>rfl⟩
variable{h0:AH}
theorem Pf.app(p:Pf h0 h)(t:AH):Pf h0 (h++t):=⟨by rw[ao];have:=p.len;omega,fun i hi=>by rw[av (aC hi p.len)];exact p.get i hi⟩
theorem Pf.set(p:Pf h0 h){c:Cell}(hn:h0.length<=n):Pf h0 (h.set n c):=⟨by rw[aN];exact p.len,fun i hi=>by rw[List.getElem?_set_ne (by omega)];exact p.get i hi⟩
theorem Pf.trans{a b c:AH}(p:Pf a b)(q:Pf b c):Pf a c:=⟨aU p.len q.len,fun i hi=>(q.get i (aC hi p.len)).trans (p.get i hi)⟩
theorem Pf.take{h0 h:AH}(p:Pf h0 h):h.take h0.length=h0:=by
 refine ext_getElem? fun i=>?_
 by_cases hi:i<h0.length
 · rw[bE hi,p.get i hi]
 · rw[aZ (by simp;omega),aZ (by omega)]
theorem Pf.at(p:Pf h0 h){i:Nat}{c:Cell}(e:h0[i]? =some c):h[i]? =some c:=by
 rw[p.get i (ac.mp e).1];exact e
theorem a2d{k:Nat}{c:Cell}(p:Pf h0 h)(hk:h[k]? =some c)(hl:h0.length<=k)(hc:c.flat=true):gcR 2 h0 (.ok (.ref k) h)=.ok (.ref h0.length) (h0++[c]):=by
 unfold gcR;simp only[hk];simp[hl,hc,p.take]
theorem b4l(p:Pf h0 h)(hd:d.flat=true):gcR 1 h0 (.ok d h)=.ok d h0:=by
 unfold gcR
 simp only
 rw[az (by decide)]
 simp[hd,p.take]
variable{M:Nat}
section
variable{ct:CT}{F:Nat->Option Fn}
theorem B6{g:List (Nat×Cell)}{p:Pat}{body:n5->AH->R Out}(P:Nat->n5->AH->Prop)(gk:∀j env h,P j env h->gOk g h=true):∀(l:List D) (i:Nat) (env:n5) (h:AH),
 (∀j x env h,l[j]? =some x->P (i+j) env h->∃env1 env' h',D8 p x env=some env1/\body env1 h=.ok (.nx env') h'/\P (i+j+1) env' h')->P i env h->∃env' h',V0 g p body l env h=.ok (.nx env') h'/\P (i+l.length) env' h'
 |[],i,env,h,_,q=>⟨env,h,by rw[V0,ay (gk _ _ _ q)],q⟩
 | x::r,i,env,h,st,q=>by
  obtain⟨env1,env',h',b1,b2,q'⟩:=st 0 x env h rfl q
  obtain⟨env2,h2,e2,q2⟩:=B6 P gk r (i+1) env' h' (fun j y env h hj hq=>by
   have:=st (j+1) y env h (by simpa using hj) (by rw[show i+(j+1)=i+1+j by omega];exact hq)
   rw[show i+(j+1)+1=i+1+j+1 by omega] at this
   exact this) q'
  refine⟨env2,h2,?_,by rw[length_cons,show i+(r.length+1)=i+1+r.length by omega];exact q2⟩
  rw[V0,ay (gk _ _ _ q),b1]
  simp only
  rw[b2];exact e2
theorem K9(e:h[n]? =some (.lst xs))(hl:xs.length<1000000):mtD .append h (.ref n) [d]=.ok .non (h.set n (.lst (xs++[d]))):=by
 simp only[mtD,e];rw[ay (show xs.length<16777216 by omega)]
theorem C7(e:h[n]? =some (.lst xs)):mtT .append h (.ref n)=true:=by
 simp only[mtT,rdL,e,Option.isSome_some]
theorem a2J{m:Nat}{x:D}(h:((List.range m).map fun i=>D.int ((0:Int)+(i:Nat)))[j]? =some x):j<m/\x=.int (j:Int):=by
 have hj:j<m:=by
  have:=(ac.mp h).1
  simpa using this
 refine⟨hj,?_⟩
 rw[aj,aJ hj] at h
 have h:=ax h;rw[←h]
 show D.int (0+(j:Int))=_
 rw[Int.zero_add]
noncomputable def shD(sh:List (Str×Nat)):List D:=sh.map fun p=>.tup [.str p.1,.int (p.2:Int)]
structure Shs(sh:List (Str×Nat)):Prop where
 lo:4<=sh.length
 hi:sh.length<=16
 nd:(sh.map (·.1)).Nodup
 ok:∀p∈sh,g9 p.1=true/\p.2<99999
theorem D9:∀{l:List D},(∀d∈l,d.flat=true)->D.flats l=true
 |[],_=>rfl
 |d::r,h=>by rw[D.flats,h d (.head _),D9 fun x hx=>h x (.tail _ hx)];rfl
theorem b1M(sh:List (Str×Nat)):D.flats (shD sh)=true:=D9 fun d hd=>by
 obtain⟨p,_,rfl⟩:=ak.mp hd;rfl
theorem a2g:∀(ns:List Str) (ws:List Nat),a0Z (ns.map .str) (ws.map fun w=>.int ((w:Nat):Int))=shD (ns.zip ws)
 |[],_=>rfl
 |_::_,[]=>rfl
 |n::ns,w::ws=>by
  show D.tup [.str n,.int ((w:Nat):Int)]::a0Z _ _=_
  rw[a2g ns ws];rfl
theorem b4p{l:List Nat}{i:Nat}(hl:l.length=4):∃w,(l.map fun w=>D.int ((w:Nat):Int))[i%4]? =some (.int ((w:Nat):Int))/\w∈l:=by
 have lt:i%4<l.length:=by rw[hl];exact Nat.mod_lt _ (by decide)
 exact⟨l[i%4],by rw[aj,af lt];rfl,bw lt⟩
theorem a9H(he:env[5]? =some (M⁻¹)):∃w t,w<99999/\ev ct c wE env h=.ok (.int ((w:Nat):Int)) (h++[t]):=by
 have d4:∀h,D3 h (.int (M:Int)) (.int 4)=.ok (.int ((M/4:Nat):Int)) h:=fun h=>R7 4 (by decide) (by decide)
 have m4:∀h,u0 h (.int (M:Int)) (.int 4)=.ok (.int ((M%4:Nat):Int)) h:=fun h=>G7 4 (by decide)
 have m20:∀(a:Nat) h,u0 h (.int (a:Int)) (.int 20)=.ok (.int ((a%20:Nat):Int)) h:=fun a h=>G7 20 (by decide)
 have m1000:∀(a:Nat) h,u0 h (.int (a:Int)) (.int 1000)=.ok (.int ((a%1000:Nat):Int)) h:=fun a h=>G7 1000 (by decide)
 have m9:∀(a:Nat) h,u0 h (.int (a:Int)) (.int 99999)=.ok (.int ((a%99999:Nat):Int)) h:=fun a h=>G7 99999 (by decide)
 obtain⟨w,h1,h2⟩:=b4p (l:=[0,M/4%20,M/4%1000,M/4%99999]) (i:=M) rfl;refine⟨w,.lst [.int ((0:Nat):Int),.int ((M/4%20:Nat):Int),.int ((M/4%1000:Nat):Int),.int ((M/4%99999:Nat):Int)],?_,?_⟩
 · simp only[aE,not_mem_nil,or_false] at h2
   rcases h2 with rfl|rfl|rfl|rfl
   · decide
   · exact Nat.lt_trans (Nat.mod_lt _ (show 0<20 by decide)) (by decide)
   · exact Nat.lt_trans (Nat.mod_lt _ (show 0<1000 by decide)) (by decide)
   · exact Nat.mod_lt _ (by decide)
 · unfold wE
   have hx:ixD (h++[.lst [.int 0,.int ((M/4%20:Nat):Int),.int ((M/4%1000:Nat):Int),.int ((M/4%99999:Nat):Int)]]) (.ref h.length) (.int ((M%4:Nat):Int))=.ok (.int ((w:Nat):Int)) (h++[.lst [.int 0,.int ((M/4%20:Nat):Int),.int ((M/4%1000:Nat):Int),.int ((M/4%99999:Nat):Int)]]):=B9 b6 h1
   simp_arith[he,op2,d4,m4,m20,m1000,m9,o5,hx];rfl
variable(f202:F 202=some l0)(f203:F 203=some k7)
include f202 f203
theorem a8O{k:Nat}{c:Int}(hF:F 204=some v8):∃sh,Shs sh/\b0 ct F (k+2) 204 [.int c] h=.ok (.ref h.length) (h++[.lst (shD sh)]):=by
 obtain⟨M,hM⟩:=C1 (ct:=ct) (k:=k) (c:=c) (j:=1) (h:=h) f202 (by decide)
 have d13:D3 h (.int (M:Int)) (.int 13)=.ok (.int ((M/13:Nat):Int)) h:=R7 13 (by decide) (by decide)
 have m13:u0 h (.int (M:Int)) (.int 13)=.ok (.int ((M%13:Nat):Int)) h:=G7 13 (by decide)
 have a4:(4:Int)+((M%13:Nat):Int)=((4+M%13:Nat):Int):=by omega
 have m16:M%13<13:=Nat.mod_lt _ (by decide)
 obtain⟨ns,nk,hN⟩:=Z3 (ct:=ct) (k:=k) (c:=M/13) (m:=4+M%13) (h:=h) f203 (by omega)
 generalize hm:4+M%13=m at nk hN a4;rw[i6 hF rfl];simp only[v8]
 show∃sh,Shs sh/\gcR 2 h (Q4 (exs ct (b0 ct F (k+1)) _ [some (.int c),none,none,none,none,none] h))=_
 rw[seq (env':=[some (.int c),M⁻¹,none,none,none,none]) (h':=h) (by simp_arith[hM])]
 rw[seq (env':=[some (.int c),M⁻¹,~~~h.length,none,none,none]) (h':=h++[.lst (ns.map .str)]) (by simp_arith[op2,d13,m13,l7,a4,hN])]
 have l1:(h++[Cell.lst (ns.map D.str)]).length=h.length+1:=by simp
 rw[seq (env':=[some (.int c),M⁻¹,~~~h.length,some (.ref (h.length+1)),none,none]) (h':=h++[.lst (ns.map .str)]++[.lst []]) (by simp_arith[o5,l1])]
 have gN:(h++[Cell.lst (ns.map D.str)]++[Cell.lst []])[h.length]? =some (.lst (ns.map .str)):=b5 b6
 have gW:(h++[Cell.lst (ns.map D.str)]++[Cell.lst []])[h.length+1]? =some (.lst []):=by rw[←l1];exact b6
 have pf:Pf h (h++[Cell.lst (ns.map D.str)]++[Cell.lst []]):=((Pf.refl h).app _).app _
 generalize h++[Cell.lst (ns.map D.str)]++[Cell.lst []]=g at gN gW pf
 have len:biD .len g [.ref h.length]=.ok (.int (m:Int)) g:=by rw[A9 gN,aa,nk.len]
 obtain⟨env',g',e1,ws,e4,e5,rfl,q2,q3,q4,q5,q6⟩:=B6 (g:=[]) (p:=.nm 4) (body:=exs ct (b0 ct F (k+1)) wB) (fun j env hh=>∃ws:List Nat,∃e4 e5,env=[some (.int c),M⁻¹,~~~h.length,some (.ref (h.length+1)),e4,e5]/\Pf h hh/\hh[h.length]? =some (.lst (ns.map .str))/\hh[h.length+1]? =some (.lst (ws.map fun w=>.int ((w:Nat):Int)))/\ws.length=j/\∀w∈ws,w<99999) (fun _ _ _ _=>rfl) ((List.range m).map fun i=>.int ((0:Int)+(i:Nat))) 0 [some (.int c),M⁻¹,~~~h.length,some (.ref (h.length+1)),none,none] g (fun j x env hh hx hP=>by
  obtain⟨ws,e4,e5,rfl,p1,p2,p3,p4,p5⟩:=hP;obtain⟨hj,rfl⟩:=a2J hx;rw[aB] at p4⊢
  have a10:((j:Nat):Int)+10=((j+10:Nat):Int):=by omega
  obtain⟨N,hN⟩:=C1 (ct:=ct) (k:=k) (c:=c) (j:=((j+10:Nat):Int)) (h:=hh) f202 (by omega)
  obtain⟨w,t,w1,w2⟩:=a9H (ct:=ct) (c:=b0 ct F (k+1)) (M:=N) (env:=[some (.int c),M⁻¹,~~~h.length,some (.ref (h.length+1)),j⁻¹,N⁻¹]) (h:=hh) rfl;refine⟨_,[some (.int c),M⁻¹,~~~h.length,some (.ref (h.length+1)),j⁻¹,N⁻¹],(hh++[t]).set (h.length+1) (.lst ((ws.map fun w=>D.int ((w:Nat):Int))++[.int ((w:Nat):Int)])),rfl,?_,ws++[w],_,_,rfl,(p1.app _).set (Nat.le_succ _),b7 (by omega) (b5 p2),?_,by rw[ao,p4];rfl,fun x hx=>?_⟩
  · show exs ct (b0 ct F (k+1)) wB [some (.int c),M⁻¹,~~~h.length,some (.ref (h.length+1)),j⁻¹,e5] hh=_
    unfold wB;rw[seq (env':=[some (.int c),M⁻¹,~~~h.length,some (.ref (h.length+1)),j⁻¹,N⁻¹]) (h':=hh) (by simp_arith[op2,l7,a10,hN])]
    simp_arith[C7 p3,w2,K9 (b5 (g:=[t]) p3) (by rw[aa,p4];omega)]
  · rw[x5 (b5 p3)];simp
  · rcases aK.mp hx with hx|hx
    · exact p5 x hx
    · rw[aP.mp hx];exact w1) ⟨[],none,none,rfl,pf,gN,gW,rfl,fun _ h=>nomatch h⟩
 rw[aa,aI,aB] at q5;rw[seq (env':=[some (.int c),M⁻¹,~~~h.length,some (.ref (h.length+1)),e4,e5]) (h':=g') (by simp_arith[len,a0J (h:=g) (m:=m) (by omega),e1])]
 have cz:=v7 (ct:=ct) (c:=b0 ct F (k+1)) (p:=.tp (.cons (.nm 0) (.cons (.nm 1) .nil))) (it:=.zip (.v 2) (.v 3)) (n:=2) (fr:=[]) (e:=.tup (.cons (.v 0) (.o (.v 1)))) (env:=[some (.int c),M⁻¹,~~~h.length,some (.ref (h.length+1)),e4,e5]) (h:=g') (l:=a0Z (ns.map .str) (ws.map fun w=>.int ((w:Nat):Int))) (g:=[(h.length,.lst (ns.map .str)),(h.length+1,.lst (ws.map fun w=>.int ((w:Nat):Int)))]) (h1:=g') (by simp_arith[b2D,a6i,q3,q4]) (by simp[gOk,q3,q4]) id (fun d=>match d with|.tup [a,b]=>[some a,some b]|_=>[]) (fun x hx=>by
  rw[a2g] at hx;obtain⟨p,_,rfl⟩:=ak.mp hx;refine⟨rfl,?_⟩
  simp_arith[id]) (by
  rw[a2g];unfold shD;rw[aa,List.length_zip]
  show _<=16777216
  have:=nk.len
  omega)
 rw[map_id,a2g] at cz
 have zl:(ns.zip ws).length=m:=by rw[List.length_zip,nk.len,q5];omega
 have zf:(ns.zip ws).map (·.1)=ns:=by
  rw[List.map_fst_zip];rw[nk.len,q5];exact ai _
 refine⟨ns.zip ws,⟨by omega,by omega,by rw[zf];exact nk.nd,fun p hp=>⟨nk.ok _ (of_mem_zip hp).1,q6 _ (of_mem_zip hp).2⟩⟩,?_⟩
 simp_arith[cz];exact a2d (q2.app _) b6 q2.len (b1M _)
end
noncomputable def spD(p:Int×Int):D:=.tup [.int p.1,.int p.2]
def Y1(p:Int×Int):Prop:=(-99999<=p.1/\p.1<=99999)/\ -99999<=p.2/\p.2<=99999
structure Mk where
 n:Str
 s:Str
 a:Int×Int
 b:Int×Int
def mkD(m:Mk):D:=.tup [.str m.n,.str m.s,spD m.a,spD m.b]
def U3(s:Str):Prop:=s="above"∨s="below"
variable{sh:List (Str×Nat)}
theorem a6O(hj:j<sh.length):(shD sh)[j]? =some (.tup [.str (sh[j]).1,.int ((sh[j]).2:Int)]):=by
 unfold shD;rw[aj,af hj]
 rfl
theorem ix_tup{i:Nat}(hd:xs[i]? =some d):ixD h (.tup xs) (.int (i:Nat))=.ok d h:=by
 have hi:=(ac.mp hd).1
 have:atI xs (i:Int)=some d:=by
  show(ixN xs.length (i:Int)).bind (fun j=>xs[j]?)=some d
  have e:ixN xs.length (i:Int)=some i:=by
   unfold ixN;rw[ay (by omega),ay (by omega)]
   simp
  rw[e];exact hd
 simp only[ixD,this]
theorem a0x{a:D}{r:List D}:ixD h (.tup (a::r)) (.int 0)=.ok a h:=ix_tup (i:=0) rfl
variable{β:Type}
section
variable{ct:CT}{F:Nat->Option Fn}
theorem a4u{k m:Nat}(hF:F 205=some t8):∃p,Y1 p/\b0 ct F (k+1) 205 [.int (m:Int)] h=.ok (spD p) h:=by
 have m41:∀h,u0 h (.int (m:Int)) (.int 41)=.ok (.int ((m%41:Nat):Int)) h:=fun h=>G7 41 (by decide)
 have d41:∀h,D3 h (.int (m:Int)) (.int 41)=.ok (.int ((m/41:Nat):Int)) h:=fun h=>R7 41 (by decide) (by decide)
 have d7:∀h,D3 h (.int (m:Int)) (.int 7)=.ok (.int ((m/7:Nat):Int)) h:=fun h=>R7 7 (by decide) (by decide)
 have m9:∀(a:Nat) h,u0 h (.int (a:Int)) (.int 99999)=.ok (.int ((a%99999:Nat):Int)) h:=fun a h=>G7 99999 (by decide)
 have m3:∀(a:Nat) h,u0 h (.int (a:Int)) (.int 3)=.ok (.int ((a%3:Nat):Int)) h:=fun a h=>G7 3 (by decide)
 have sb:∀h,a5Y h (.int ((m%41:Nat):Int)) (.int 20)=.ok (.int (((m%41:Nat):Int)-20)) h:=fun h=>rfl
 have l9:m/41%99999<99999:=Nat.mod_lt _ (by decide)
 have l41:m%41<41:=Nat.mod_lt _ (by decide)
 have ix:∃y:Int,(-99999<=y/\y<=99999)/\([.int 0,.int ((m/41%99999:Nat):Int),.int (-((m/41%99999:Nat):Int))]:List D)[m/7%3]? =some (.int y):=by
  have:m/7%3=0∨m/7%3=1∨m/7%3=2:=by omega
  rcases this with e|e|e<;>rw[e]
  · exact⟨0,by decide,rfl⟩
  · exact⟨_,by omega,rfl⟩
  · exact⟨_,by omega,rfl⟩
 obtain⟨y,y1,y2⟩:=ix;refine⟨(((m%41:Nat):Int)-20,y),⟨by simp only;omega,y1⟩,?_⟩
 have hx:ixD (h++[.lst [.int 0,.int ((m/41%99999:Nat):Int),.int (-((m/41%99999:Nat):Int))]]) (.ref h.length) (.int ((m/7%3:Nat):Int))=.ok (.int y) (h++[.lst [.int 0,.int ((m/41%99999:Nat):Int),.int (-((m/41%99999:Nat):Int))]]):=B9 b6 y2
 rw[i6 hF rfl];simp only[t8];simp_arith[op2,m41,sb,d41,m9,d7,m3,o5,hx];exact gc1 rfl
theorem b3d(he:env[4]? =some (M⁻¹)):∃s t,U3 s/\ev ct c b0d env h=.ok (.str s) (h++[t]):=by
 have d4:∀h,D3 h (.int (M:Int)) (.int 4)=.ok (.int ((M/4:Nat):Int)) h:=fun h=>R7 4 (by decide) (by decide)
 have m2:∀(a:Nat) h,u0 h (.int (a:Int)) (.int 2)=.ok (.int ((a%2:Nat):Int)) h:=fun a h=>G7 2 (by decide)
 have ix:∃s:Str,U3 s/\([.str "above",.str "below"]:List D)[M/4%2]? =some (.str s):=by
  have:M/4%2=0∨M/4%2=1:=by omega
  rcases this with e|e<;>rw[e]
  · exact⟨"above",.inl rfl,rfl⟩
  · exact⟨"below",.inr rfl,rfl⟩
 obtain⟨s,s1,s2⟩:=ix;refine⟨s,.lst [.str "above",.str "below"],s1,?_⟩
 have hx:ixD (h++[.lst [.str "above",.str "below"]]) (.ref h.length) (.int ((M/4%2:Nat):Int))=.ok (.str s) (h++[.lst [.str "above",.str "below"]]):=B9 b6 s2
 unfold b0d;simp_arith[he,op2,d4,m2,o5,hx]
theorem b1P(ms:List Mk):D.flats (ms.map mkD)=true:=D9 fun d hd=>by
 obtain⟨p,_,rfl⟩:=ak.mp hd;rfl
theorem a5I{f:α->β}{l:List α}(hj:j<l.length){r:List β}(h:r.Sublist ((l.take j).map f)):r.Sublist ((l.take (j+1)).map f)/\(r++[f l[j]]).Sublist ((l.take (j+1)).map f):=by
 rw[take_succ_eq_append_getElem hj,al];exact⟨h.trans (List.sublist_append_left _ _),h.append (List.Sublist.refl _)⟩
variable(f202:F 202=some l0)(f205:F 205=some t8)
include f202 f205
theorem b1c{k s:Nat}{c:Int}(hF:F 206=some A8)(hs:Shs sh)(hh:h[s]? =some (.lst (shD sh))):∃ms:List Mk,(ms.map (·.n)).Sublist (sh.map (·.1))/\(∀m∈ms,U3 m.s/\Y1 m.a/\Y1 m.b)/\b0 ct F (k+2) 206 [.int c,.ref s] h=.ok (.ref h.length) (h++[.lst (ms.map mkD)]):=by
 have sl:s<h.length:=(ac.mp hh).1
 have hi:=hs.hi;rw[i6 hF rfl];simp only[A8]
 show∃ms:List Mk,_/\_/\gcR 2 h (Q4 (exs ct (b0 ct F (k+1)) _ [some (.int c),~~~s,none,none,none,none] h))=_
 rw[seq (env':=[some (.int c),~~~s,~~~h.length,none,none,none]) (h':=h++[.lst []]) (by simp_arith[o5])]
 have len:biD .len (h++[.lst []]) [.ref s]=.ok (.int (sh.length:Int)) (h++[.lst []]):=by rw[A9 (b5 hh)];unfold shD;rw[aa]
 obtain⟨env',g',e1,ms,e3,e4,e5,rfl,q2,q3,q4,q5⟩:=B6 (g:=[]) (p:=.nm 3) (body:=exs ct (b0 ct F (k+1)) mkB) (fun j env g=>∃ms:List Mk,∃e3 e4 e5,env=[some (.int c),~~~s,~~~h.length,e3,e4,e5]/\Pf h g/\g[h.length]? =some (.lst (ms.map mkD))/\(ms.map (·.n)).Sublist ((sh.take j).map (·.1))/\∀m∈ms,U3 m.s/\Y1 m.a/\Y1 m.b) (fun _ _ _ _=>rfl) ((List.range sh.length).map fun i=>.int ((0:Int)+(i:Nat))) 0 [some (.int c),~~~s,~~~h.length,none,none,none] (h++[.lst []]) (fun j x env g hx hP=>by
  obtain⟨ms,e3,e4,e5,rfl,p1,p2,p3,p4⟩:=hP;obtain⟨hj,rfl⟩:=a2J hx;rw[aB] at p3⊢;obtain⟨t1,t2⟩:=a5I hj p3
  have a40:((j:Nat):Int)+40=((j+40:Nat):Int):=by omega
  obtain⟨N,hN⟩:=C1 (ct:=ct) (k:=k) (c:=c) (j:=((j+40:Nat):Int)) (h:=g) f202 (by omega)
  have m4:u0 g (.int (N:Int)) (.int 4)=.ok (.int ((N%4:Nat):Int)) g:=G7 4 (by decide)
  show∃env1 env' h',_/\exs ct (b0 ct F (k+1)) mkB env1 g=_/\_
  unfold mkB
  by_cases hb:((N%4:Nat):Int)=1
  · have q1:K0 g (.int ((N%4:Nat):Int)) (.int 1)=.ok (.bl true) g:=by rw[hb];rfl
    obtain⟨sd,t,s1,s2⟩:=b3d (ct:=ct) (c:=b0 ct F (k+1)) (M:=N) (env:=[some (.int c),~~~s,~~~h.length,j⁻¹,N⁻¹,e5]) (h:=g) rfl;obtain⟨pa,a1,a2⟩:=a4u (ct:=ct) (k:=k) (m:=N/8) (h:=g++[t]) f205;obtain⟨pb,b1,b2⟩:=a4u (ct:=ct) (k:=k) (m:=N/8000) (h:=g++[t]) f205
    have d8:D3 (g++[t]) (.int (N:Int)) (.int 8)=.ok (.int ((N/8:Nat):Int)) (g++[t]):=R7 8 (by decide) (by decide)
    have d8k:D3 (g++[t]) (.int (N:Int)) (.int 8000)=.ok (.int ((N/8000:Nat):Int)) (g++[t]):=R7 8000 (by decide) (by decide)
    have sx:ixD (g++[t]) (.ref s) (.int (j:Int))=.ok (.tup [.str (sh[j]).1,.int ((sh[j]).2:Int)]) (g++[t]):=B9 (b5 (p1.at hh)) (a6O hj)
    have ml:(ms.map mkD).length<1000000:=by
     have:=t1.length_le
     rw[aa] at this⊢;rw[aa,aM] at this;omega
    refine⟨_,[some (.int c),~~~s,~~~h.length,j⁻¹,N⁻¹,some (.str sd)],(g++[t]).set h.length (.lst (ms.map mkD++[mkD ⟨(sh[j]).1,sd,pa,pb⟩])),rfl,?_,ms++[⟨(sh[j]).1,sd,pa,pb⟩],_,_,_,rfl,(p1.app _).set (ai _),?_,?_,fun m hm=>?_⟩
    · show exs ct (b0 ct F (k+1)) _ [some (.int c),~~~s,~~~h.length,j⁻¹,e4,e5] g=_
      rw[seq (env':=[some (.int c),~~~s,~~~h.length,j⁻¹,N⁻¹,e5]) (h':=g) (by simp_arith[op2,l7,a40,hN])]
      unfold b8P;simp_arith[op2,m4,q1,s2,C7 (b5 (g:=[t]) p2),sx,a0x,d8,a2,d8k,b2,K9 (b5 (g:=[t]) p2) ml,mkD]
    · rw[x5 (b5 p2),al];rfl
    · rw[al];exact t2
    · rcases aK.mp hm with hm|hm
      · exact p4 m hm
      · rw[aP.mp hm];exact⟨s1,a1,b1⟩
  · have q1:K0 g (.int ((N%4:Nat):Int)) (.int 1)=.ok (.bl false) g:=by simp only[K0,eqS,hb,decide_false]
    refine⟨_,[some (.int c),~~~s,~~~h.length,j⁻¹,N⁻¹,e5],g,rfl,?_,ms,_,_,_,rfl,p1,p2,t1,p4⟩
    show exs ct (b0 ct F (k+1)) _ [some (.int c),~~~s,~~~h.length,j⁻¹,e4,e5] g=_
    rw[seq (env':=[some (.int c),~~~s,~~~h.length,j⁻¹,N⁻¹,e5]) (h':=g) (by simp_arith[op2,l7,a40,hN])]
    simp_arith[op2,m4,q1]) ⟨[],none,none,none,rfl,(Pf.refl h).app _,b6,List.nil_sublist _,fun _ h=>nomatch h⟩
 rw[aa,aI,aB,bn] at q4;refine⟨ms,q4,q5,?_⟩
 rw[seq (env':=[some (.int c),~~~s,~~~h.length,e3,e4,e5]) (h':=g') (by simp_arith[len,a0J (h:=h++[.lst []]) (m:=sh.length) (by omega),e1])]
 simp_arith[];exact a2d q2 q3 (ai _) (b1P _)
end
structure Pt where
 n:Str
 s:Str
 a:Int×Int
def ptD(p:Pt):D:=.tup [.str p.n,.str p.s,spD p.a]
def ptK(p:Pt):Str×Str:=(p.n,p.s)
theorem b1O(ms:List Pt):D.flats (ms.map ptD)=true:=D9 fun d hd=>by
 obtain⟨p,_,rfl⟩:=ak.mp hd;rfl
section
variable{ct:CT}{F:Nat->Option Fn}
theorem a8N(N:Nat):∃l:List Str,V3 [.str "above",.str "below"] (some ((N%2:Nat):Int)) none=l.map .str/\l.Nodup/\(∀s∈l,U3 s)/\l.length<=2:=by
 have:N%2=0∨N%2=1:=by omega
 rw[V2]
 rcases this with e|e<;>rw[e]
 · exact⟨["above","below"],rfl,by decide,fun s hs=>by
    simp only[aE,not_mem_nil,or_false] at hs;exact hs,by decide⟩
 · exact⟨["below"],rfl,by decide,fun s hs=>.inr (aP.mp hs),by decide⟩
variable(f202:F 202=some l0)(f205:F 205=some t8)
include f205
theorem b0y{k s a N:Nat}{c:Int}{ps:List Pt}{l:List Str}(hh:h[s]? =some (.lst (shD sh)))(hj:j<sh.length)(ha:a=h.length)(hn:a<n)(p1:Pf h g)(p2:g[a]? =some (.lst (ps.map ptD)))(p3:g[n]? =some (.lst (l.map .str)))(hl:ps.length<=1000)(l2:l.length<=2)(e5:Option D)(sd:∀s∈l,U3 s):
 ∃qs e5' g',V0 [(n,.lst (l.map .str))] (.nm 5) (exs ct (b0 ct F (k+1)) b0B) (l.map .str) [some (.int c),~~~s,~~~a,j⁻¹,N⁻¹,e5] g=.ok (.nx [some (.int c),~~~s,~~~a,j⁻¹,N⁻¹,e5']) g'/\Pf h g'/\g'[a]? =some (.lst ((ps++qs).map ptD))/\(qs.map ptK).Sublist (l.map fun s=>((sh[j]).1,s))/\∀q∈qs,U3 q.s/\Y1 q.a:=by
 obtain⟨env',g',e1,qs,e5',rfl,q1,q2,q3,q4,q5⟩:=B6 (g:=[(n,.lst (l.map .str))]) (p:=.nm 5) (body:=exs ct (b0 ct F (k+1)) b0B) (fun i env gg=>∃qs:List Pt,∃e5,env=[some (.int c),~~~s,~~~a,j⁻¹,N⁻¹,e5]/\Pf h gg/\gg[a]? =some (.lst ((ps++qs).map ptD))/\gg[n]? =some (.lst (l.map .str))/\(qs.map ptK).Sublist ((l.take i).map fun s=>((sh[j]).1,s))/\∀q∈qs,U3 q.s/\Y1 q.a) (fun i env gg hP=>by
  obtain⟨_,_,_,_,_,h3,_⟩:=hP;simp[gOk,h3]) (l.map .str) 0 [some (.int c),~~~s,~~~a,j⁻¹,N⁻¹,e5] g (fun i x env gg hx hP=>by
  obtain⟨qs,e5,rfl,r1,r2,r3,r4,r5⟩:=hP
  have hi:i<l.length:=by simpa using(ac.mp hx).1
  rw[aj,af hi] at hx
  obtain rfl:D.str l[i]=x:=ax hx;rw[aB] at r4⊢;obtain⟨t1,t2⟩:=a5I (f:=fun s=>((sh[j]).1,s)) hi r4
  have d2:∀h,D3 h (.int (N:Int)) (.int 2)=.ok (.int ((N/2:Nat):Int)) h:=fun h=>R7 2 (by decide) (by decide)
  have m3:∀(a:Nat) h,u0 h (.int (a:Int)) (.int 3)=.ok (.int ((a%3:Nat):Int)) h:=fun a h=>G7 3 (by decide)
  have d6:D3 gg (.int (N:Int)) (.int 6)=.ok (.int ((N/6:Nat):Int)) gg:=R7 6 (by decide) (by decide)
  show∃env1 env' h',_/\exs ct (b0 ct F (k+1)) b0B env1 gg=_/\_
  unfold b0B
  by_cases hb:(0:Int)<((N/2%3:Nat):Int)
  · obtain⟨p,a1,a2⟩:=a4u (ct:=ct) (k:=k) (m:=N/6) (h:=gg) f205
    have sx:ixD gg (.ref s) (.int (j:Int))=.ok (.tup [.str (sh[j]).1,.int ((sh[j]).2:Int)]) gg:=B9 (r1.at hh) (a6O hj)
    have ml:((ps++qs).map ptD).length<1000000:=by
     have:=t1.length_le
     rw[aa,ao];rw[aa,aa,aM] at this;omega
    refine⟨_,[some (.int c),~~~s,~~~a,j⁻¹,N⁻¹,some (.str l[i])],gg.set a (.lst ((ps++qs).map ptD++[ptD ⟨(sh[j]).1,l[i],p⟩])),rfl,?_,qs++[⟨(sh[j]).1,l[i],p⟩],_,rfl,r1.set (by omega),?_,b7 (by omega) r3,?_,fun q hq=>?_⟩
    · show exs ct (b0 ct F (k+1)) _ [some (.int c),~~~s,~~~a,j⁻¹,N⁻¹,some (.str l[i])] gg=_
      simp_arith[op2,d2,m3,E8,hb,decide_true,C7 r2,sx,a0x,d6,a2,K9 r2 ml,ptD]
    · rw[x5 r2,←aA,al (l₁:=ps++qs)];rfl
    · rw[al];exact t2
    · rcases aK.mp hq with hq|hq
      · exact r5 q hq
      · rw[aP.mp hq];exact⟨sd _ (bw hi),a1⟩
  · refine⟨_,[some (.int c),~~~s,~~~a,j⁻¹,N⁻¹,some (.str l[i])],gg,rfl,?_,qs,_,rfl,r1,r2,r3,t1,r5⟩
    show exs ct (b0 ct F (k+1)) _ [some (.int c),~~~s,~~~a,j⁻¹,N⁻¹,some (.str l[i])] gg=_
    simp_arith[op2,d2,m3,E8,hb,decide_false]) ⟨[],e5,rfl,p1,by rw[bh];exact p2,p3,List.nil_sublist _,fun _ h=>nomatch h⟩
 rw[aa,aB,bn] at q4;exact⟨qs,e5',g',e1,q1,q2,q4,q5⟩
include f202
theorem a8Y{k s:Nat}{c:Int}(hF:F 207=some w5)(hs:Shs sh)(hh:h[s]? =some (.lst (shD sh))):∃ps:List Pt,(ps.map ptK).Nodup/\ps.length<=100/\(∀p∈ps,p.n∈sh.map (·.1)/\U3 p.s/\Y1 p.a)/\b0 ct F (k+2) 207 [.int c,.ref s] h=.ok (.ref h.length) (h++[.lst (ps.map ptD)]):=by
 have hi:=hs.hi;rw[i6 hF rfl];simp only[w5]
 show∃ps:List Pt,_/\_/\_/\gcR 2 h (Q4 (exs ct (b0 ct F (k+1)) _ [some (.int c),~~~s,none,none,none,none] h))=_
 rw[seq (env':=[some (.int c),~~~s,~~~h.length,none,none,none]) (h':=h++[.lst []]) (by simp_arith[o5])]
 have len:biD .len (h++[.lst []]) [.ref s]=.ok (.int (sh.length:Int)) (h++[.lst []]):=by rw[A9 (b5 hh)];unfold shD;rw[aa]
 obtain⟨env',g',e1,ps,e3,e4,e5,rfl,q2,q3,q4,q5,q6,q7⟩:=B6 (g:=[]) (p:=.nm 3) (body:=exs ct (b0 ct F (k+1)) ptB) (fun j env g=>∃ps:List Pt,∃e3 e4 e5,env=[some (.int c),~~~s,~~~h.length,e3,e4,e5]/\Pf h g/\g[h.length]? =some (.lst (ps.map ptD))/\(ps.map ptK).Nodup/\ps.length<=2*j/\(∀p∈ps,p.n∈(sh.take j).map (·.1))/\∀p∈ps,U3 p.s/\Y1 p.a) (fun _ _ _ _=>rfl) ((List.range sh.length).map fun i=>.int ((0:Int)+(i:Nat))) 0 [some (.int c),~~~s,~~~h.length,none,none,none] (h++[.lst []]) (fun j x env g hx hP=>by
  obtain⟨ps,e3,e4,e5,rfl,p1,p2,p3,p4,p5,p6⟩:=hP;obtain⟨hj,rfl⟩:=a2J hx;rw[aB] at p4 p5⊢
  have a70:((j:Nat):Int)+70=((j+70:Nat):Int):=by omega
  obtain⟨N,hN⟩:=C1 (ct:=ct) (k:=k) (c:=c) (j:=((j+70:Nat):Int)) (h:=g) f202 (by omega)
  have m2:∀h,u0 h (.int (N:Int)) (.int 2)=.ok (.int ((N%2:Nat):Int)) h:=fun h=>G7 2 (by decide)
  obtain⟨l,l1,l2,l3,l4⟩:=a8N N
  have sl:slD (g++[.lst [.str "above",.str "below"]]) (some ((N%2:Nat):Int)) none (.ref g.length)=.ok (.ref (g.length+1)) (g++[.lst [.str "above",.str "below"]]++[.lst (l.map .str)]):=by
   rw[V4 b6,l1];simp
  have gl:h.length<g.length:=(ac.mp p2).1
  have gn:(g++[Cell.lst [.str "above",.str "below"]]++[.lst (l.map .str)])[g.length+1]? =some (.lst (l.map .str)):=by
   have:=b6 (h:=g++[Cell.lst [.str "above",.str "below"]]) (c:=.lst (l.map .str))
   rw[ao] at this;exact this
  obtain⟨qs,e5',g2,f1,f2,f3,f4,f5⟩:=b0y (ct:=ct) (k:=k) (c:=c) (N:=N) f205 hh hj rfl (Nat.lt_trans gl (aV _)) ((p1.app _).app _) (b5 (b5 p2)) gn (by omega) l4 e5 l3
  have nw:(sh[j]).1∉(sh.take j).map (·.1):=fun hm=>by
   have nd:=hs.nd;rw[←take_append_drop j sh,List.drop_eq_getElem_cons hj,al,map_cons] at nd
   have:=nodup_append.mp nd
   exact this.2.2 _ hm _ (.head _) rfl
  refine⟨_,[some (.int c),~~~s,~~~h.length,j⁻¹,N⁻¹,e5'],g2,rfl,?_,ps++qs,_,_,_,rfl,f2,f3,?_,?_,fun p hp=>?_,fun p hp=>?_⟩
  · show exs ct (b0 ct F (k+1)) ptB [some (.int c),~~~s,~~~h.length,j⁻¹,e4,e5] g=_
    unfold ptB;rw[seq (env':=[some (.int c),~~~s,~~~h.length,j⁻¹,N⁻¹,e5]) (h':=g) (by simp_arith[op2,l7,a70,hN])]
    simp_arith[o5,op2,m2,sl,V6,gn,f1]
  · rw[al];refine nodup_append.mpr ⟨p3,f4.nodup (a0o _ l2 fun a _ b _ e=>(Prod.mk.inj e).2),fun a ha b hb e=>?_⟩
    obtain⟨p,hp,rfl⟩:=ak.mp ha;have hb:=f4.subset hb;obtain⟨y,_,rfl⟩:=ak.mp hb;refine nw ?_
    have e1:p.n=(sh[j]).1:=(Prod.mk.inj e).1
    rw[←e1];exact p5 p hp
  · have:=f4.length_le
    rw[aa,aa] at this;rw[ao];omega
  · rw[take_succ_eq_append_getElem hj,al]
    rcases aK.mp hp with hp|hp
    · exact List.mem_append_left _ (p5 p hp)
    · have:=f4.subset (List.mem_map_of_mem hp)
      obtain⟨y,_,e⟩:=ak.mp this;refine mem_append_right _ ?_
      have e1:(sh[j]).1=p.n:=(Prod.mk.inj e).1
      rw[←e1];exact .head _
  · rcases aK.mp hp with hp|hp
    · exact p6 p hp
    · exact f5 p hp) ⟨[],none,none,none,rfl,(Pf.refl h).app _,b6,nodup_nil,Nat.zero_le _,(fun _ h=>nomatch h),fun _ h=>nomatch h⟩
 rw[aa,aI,aB] at q5 q6;rw[bn] at q6;refine⟨ps,q4,by omega,fun p hp=>⟨q6 p hp,q7 p hp⟩,?_⟩
 rw[seq (env':=[some (.int c),~~~s,~~~h.length,e3,e4,e5]) (h':=g') (by simp_arith[len,a0J (h:=h++[.lst []]) (m:=sh.length) (by omega),e1])]
 simp_arith[];exact a2d q2 q3 (ai _) (b1O _)
end
noncomputable def pk(sh:List (Str×Nat))(x:Nat):Str:=match sh[x%sh.length]? with
 |some p=>p.1
 |none=>""
theorem a7T(hs:4<=sh.length)(x:Nat):pk sh x∈sh.map (·.1)/\∃w,(shD sh)[x%sh.length]? =some (.tup [.str (pk sh x),w]):=by
 have lt:x%sh.length<sh.length:=Nat.mod_lt _ (by omega)
 unfold pk;rw[af lt]
 exact⟨List.mem_map_of_mem (bw lt),_,a6O lt⟩
structure Lt where
 n:Str
 j:Str
 w:Str
 fs:List Str
noncomputable def ltD(l:Lt):D:=.tup [.str l.n,.str l.j,.str l.w,.tup (l.fs.map .str)]
structure LtOk(sh:List (Str×Nat))(l:Lt):Prop where
 nm:g9 l.n=true
 jn:k8 a6k (.str l.j)=some (.int l.fs.length)
 few:1<=l.fs.length/\l.fs.length<=4
 wy:inD (.str l.w) [.str "left",.str "right",.str "either"]=true
 js:l.j="both"∨l.j="back"∨l.j="none"∨l.j="clear"
 ws:l.w="left"∨l.w="right"∨l.w="either"
 fs:∀f∈l.fs,f∈sh.map (·.1)
theorem b1Q(ms:List Lt):D.flats (ms.map ltD)=true:=D9 fun d hd=>by
 obtain⟨p,_,rfl⟩:=ak.mp hd
 show D.flats [.str p.n,.str p.j,.str p.w,.tup (p.fs.map .str)]=true
 simp only[D.flats,D.flat,L5,Bool.and_self]
noncomputable def jnL:List Str:=["both","back","none","both","clear","both"]
theorem b8Q(i:Nat):∃j n,jnL[i%6]? =some j/\k8 jnD (.str j)=some (.int ((n:Nat):Int))/\z7 (.str j) jnD=true/\k8 a6k (.str j)=some (.int ((n:Nat):Int))/\(1<=n/\n<=4)/\(j="both"∨j="back"∨j="none"∨j="clear"):=by
 have:i%6=0∨i%6=1∨i%6=2∨i%6=3∨i%6=4∨i%6=5:=(by decide:∀r:Nat,r<6->r=0∨r=1∨r=2∨r=3∨r=4∨r=5) (i%6) (Nat.mod_lt i (by decide))
 rcases this with e|e|e|e|e|e<;>rw[e]
 · exact⟨"both",4,rfl,by decide,by decide,by decide,by decide,.inl rfl⟩
 · exact⟨"back",2,rfl,by decide,by decide,by decide,by decide,.inr (.inl rfl)⟩
 · exact⟨"none",1,rfl,by decide,by decide,by decide,by decide,.inr (.inr (.inl rfl))⟩
 · exact⟨"both",4,rfl,by decide,by decide,by decide,by decide,.inl rfl⟩
 · exact⟨"clear",1,rfl,by decide,by decide,by decide,by decide,.inr (.inr (.inr rfl))⟩
 · exact⟨"both",4,rfl,by decide,by decide,by decide,by decide,.inl rfl⟩
noncomputable def wyL:List Str:=["left","right","either"]
theorem b7V(i:Nat):∃w,wyL[i%3]? =some w/\inD (.str w) [.str "left",.str "right",.str "either"]=true/\(w="left"∨w="right"∨w="either"):=by
 have:i%3=0∨i%3=1∨i%3=2:=by omega
 rcases this with e|e|e<;>rw[e]
 · exact⟨"left",rfl,by decide,.inl rfl⟩
 · exact⟨"right",rfl,by decide,.inr (.inl rfl)⟩
 · exact⟨"either",rfl,by decide,.inr (.inr rfl)⟩
variable{kvs:List (D×D)}{ls:List Lt}
section
variable{ct:CT}{F:Nat->Option Fn}
theorem b4B:ev ct c (.dlit kvs) env h=o5 (.dict kvs) h:=by(rw[ev];try rfl)
theorem a7c{s:Nat}(hh:g[s]? =some (.lst (shD sh))):biD .len g [.ref s]=.ok (.int (sh.length:Int)) g:=by rw[A9 hh];unfold shD;rw[aa]
theorem b1p{s x:Nat}(hs:4<=sh.length)(hh:g[s]? =some (.lst (shD sh))):∃w,ixD g (.ref s) (.int ((x%sh.length:Nat):Int))=.ok (.tup [.str (pk sh x),w]) g:=by
 obtain⟨_,w,e⟩:=a7T hs x;exact⟨w,B9 hh e⟩
theorem b1V{s N m:Nat}(hs:4<=sh.length)(hh:g[s]? =some (.lst (shD sh)))(e1:env[1]? =some (~~~s))(e6:env[6]? =some (N⁻¹))(e8:env[8]? =some (m⁻¹))(hm:m<=1000):
 ev ct c fcE env g=.ok (.ref g.length) (g++[.lst ((List.range m).map fun i=>.str (pk sh (N/(i*i*31+7))))]):=by
 unfold fcE;refine a0f (fun i=>.str (pk sh (N/(i*i*31+7)))) (by simp_arith[e8]) (by omega) fun i hi=>?_
 have ii:i*i<=1000000:=Nat.mul_le_mul (show i<=1000 by omega) (show i<=1000 by omega)
 have m1:U7 g (.int (i:Int)) (.int (i:Int))=.ok (.int ((i*i:Nat):Int)) g:=by rw[W0 (by omega)];congr 2
 have m2:U7 g (.int ((i*i:Nat):Int)) (.int 31)=.ok (.int ((i*i*31:Nat):Int)) g:=by rw[W0 (by decide)];congr 2
 have a7:((i*i*31:Nat):Int)+7=((i*i*31+7:Nat):Int):=by omega
 obtain⟨w,ix⟩:=b1p (x:=N/(i*i*31+7)) hs hh;simp_arith[e1,e6,W6,op2,m1,m2,l7,a7,R7 (i*i*31+7) (by omega) (by omega),a7c hh,G7 sh.length (by omega),ix,a0x]
variable(f202:F 202=some l0)(f203:F 203=some k7)
include f202
theorem a6g{k s a N0:Nat}{c:Int}{ns:List Str}(hs:4<=sh.length)(hh:h[s]? =some (.lst (shD sh)))(hj:j<ns.length)(n6:ns.length<=100)(ll:ls.length<=1000)(hn:g9 ns[j]=true)(ha:a=h.length)(p1:Pf h g)(p2:g[a]? =some (.lst (ns.map .str)))(p3:g[a+1]? =some (.lst (ls.map ltD)))(e6 e7 e8 e9:Option D):
 ∃l x6 x7 x8 x9 g',LtOk sh l/\l.n=ns[j]/\exs ct (b0 ct F (k+1)) lB [some (.int c),~~~s,N0⁻¹,~~~a,some (.ref (a+1)),j⁻¹,e6,e7,e8,e9] g=.ok (.nx [some (.int c),~~~s,N0⁻¹,~~~a,some (.ref (a+1)),j⁻¹,x6,x7,x8,x9]) g'/\Pf h g'/\g'[a]? =some (.lst (ns.map .str))/\g'[a+1]? =some (.lst ((ls++[l]).map ltD)):=by
 have a100:((j:Nat):Int)+100=((j+100:Nat):Int):=by omega
 obtain⟨N,hN⟩:=C1 (ct:=ct) (k:=k) (c:=c) (j:=((j+100:Nat):Int)) (h:=g) f202 (by omega)
 obtain⟨jn,m,j1,j2,j3,j4,j5,j6⟩:=b8Q N;obtain⟨wy,w1,w2,w3⟩:=b7V (N/6)
 have m6:∀h,u0 h (.int (N:Int)) (.int 6)=.ok (.int ((N%6:Nat):Int)) h:=fun h=>G7 6 (by decide)
 have d6:∀h,D3 h (.int (N:Int)) (.int 6)=.ok (.int ((N/6:Nat):Int)) h:=fun h=>R7 6 (by decide) (by decide)
 have m3:∀(a:Nat) h,u0 h (.int (a:Int)) (.int 3)=.ok (.int ((a%3:Nat):Int)) h:=fun a h=>G7 3 (by decide)
 have je:∀(env:n5) (h:AH),ev ct (b0 ct F (k+1)) jnE env h=.ok (.ref h.length) (h++[.lst (jnL.map .str)]):=fun env h=>by unfold jnE jnL;simp_arith[o5]
 have we:∀(env:n5) (h:AH),ev ct (b0 ct F (k+1)) wyE env h=.ok (.ref h.length) (h++[.lst (wyL.map .str)]):=fun env h=>by unfold wyE wyL;simp_arith[o5]
 have jx:∀h:AH,ixD (h++[.lst (jnL.map .str)]) (.ref h.length) (.int ((N%6:Nat):Int))=.ok (.str jn) (h++[.lst (jnL.map .str)]):=fun h=>B9 b6 (by rw[aj,j1];rfl)
 have wx:∀h:AH,ixD (h++[.lst (wyL.map .str)]) (.ref h.length) (.int ((N/6%3:Nat):Int))=.ok (.str wy) (h++[.lst (wyL.map .str)]):=fun h=>B9 b6 (by rw[aj,w1];rfl)
 have dx:∀h:AH,ixD (h++[.dict jnD]) (.ref h.length) (.str jn)=.ok (.int ((m:Nat):Int)) (h++[.dict jnD]):=fun h=>by
  simp only[ixD,b6,j3,if_true,j2]
 have fl:((List.range m).map fun i=>D.str (pk sh (N/(i*i*31+7))))=((List.range m).map fun i=>pk sh (N/(i*i*31+7))).map .str:=by rw[aH];rfl
 refine⟨⟨ns[j],jn,wy,(List.range m).map fun i=>pk sh (N/(i*i*31+7))⟩,N⁻¹,some (.str jn),m⁻¹,some (.tup (((List.range m).map fun i=>pk sh (N/(i*i*31+7))).map .str)),(g++[Cell.lst (jnL.map .str)]++[Cell.dict jnD]++[Cell.lst (((List.range m).map fun i=>pk sh (N/(i*i*31+7))).map .str)]++[Cell.lst (wyL.map .str)]).set (a+1) (.lst (ls.map ltD++[ltD ⟨ns[j],jn,wy,(List.range m).map fun i=>pk sh (N/(i*i*31+7))⟩])),⟨hn,by simpa using j4,by simpa using j5,w2,j6,w3,fun f hf=>?_⟩,rfl,?_,?_,?_,?_⟩
 · obtain⟨i,_,rfl⟩:=ak.mp hf;exact(a7T hs _).1
 · unfold lB;rw[seq (env':=[some (.int c),~~~s,N0⁻¹,~~~a,some (.ref (a+1)),j⁻¹,N⁻¹,e7,e8,e9]) (h':=g) (by simp_arith[op2,l7,a100,hN])]
   rw[seq (env':=[some (.int c),~~~s,N0⁻¹,~~~a,some (.ref (a+1)),j⁻¹,N⁻¹,some (.str jn),e8,e9]) (h':=g++[.lst (jnL.map .str)]) (by simp_arith[je,op2,m6,jx])]
   have P1:Pf h (g++[.lst (jnL.map .str)]):=p1.app _
   have A1:=b5 (g:=[.lst (jnL.map .str)]) p2;have B1:=b5 (g:=[.lst (jnL.map .str)]) p3;generalize g++[Cell.lst (jnL.map .str)]=g1 at*
   unfold lB3;rw[seq (env':=[some (.int c),~~~s,N0⁻¹,~~~a,some (.ref (a+1)),j⁻¹,N⁻¹,some (.str jn),m⁻¹,e9]) (h':=g1++[.dict jnD]) (by simp_arith[b4B,o5,dx])]
   have P2:Pf h (g1++[.dict jnD]):=P1.app _
   have A2:=b5 (g:=[.dict jnD]) A1;have B2:=b5 (g:=[.dict jnD]) B1;generalize g1++[Cell.dict jnD]=g2 at*
   unfold lB4;have fo:=b1V (ct:=ct) (c:=b0 ct F (k+1)) (s:=s) (N:=N) (m:=m) (env:=[some (.int c),~~~s,N0⁻¹,~~~a,some (.ref (a+1)),j⁻¹,N⁻¹,some (.str jn),m⁻¹,e9]) (g:=g2) hs (P2.at hh) rfl rfl rfl (by omega)
   rw[fl] at fo;generalize ((List.range m).map fun i=>pk sh (N/(i*i*31+7)))=fs at*
   rw[seq (env':=[some (.int c),~~~s,N0⁻¹,~~~a,some (.ref (a+1)),j⁻¹,N⁻¹,some (.str jn),m⁻¹,some (.tup (fs.map .str))]) (h':=g2++[.lst (fs.map .str)]) (by simp_arith[fo,a2h b6])]
   have A3:=b5 (g:=[.lst (fs.map .str)]) A2;have B3:=b5 (g:=[.lst (fs.map .str)]) B2;generalize g2++[Cell.lst (fs.map .str)]=g3 at*
   unfold lB5
   have nx:ixD g3 (.ref a) (.int (j:Int))=.ok (.str ns[j]) g3:=B9 A3 (by rw[aj,af hj];rfl)
   simp_arith[C7 B3,nx,we,op2,d6,m3,wx,K9 (b5 (g:=[.lst (wyL.map .str)]) B3) (by rw[aa];omega),ltD]
 · exact((((p1.app _).app _).app _).app _).set (by omega)
 · exact b7 (by omega) (b5 (b5 (b5 (b5 p2))))
 · rw[x5 (b5 (b5 (b5 (b5 p3)))),al];rfl
include f203
theorem a7b{k s:Nat}{c:Int}(hF:F 208=some u5)(hs:Shs sh)(hh:h[s]? =some (.lst (shD sh))):∃ls:List Lt,(1<=ls.length/\ls.length<=6)/\(ls.map (·.n)).Nodup/\(∀l∈ls,LtOk sh l)/\b0 ct F (k+2) 208 [.int c,.ref s] h=.ok (.ref h.length) (h++[.lst (ls.map ltD)]):=by
 obtain⟨M,hM⟩:=C1 (ct:=ct) (k:=k) (c:=c) (j:=2) (h:=h) f202 (by decide)
 have d6:D3 h (.int (M:Int)) (.int 6)=.ok (.int ((M/6:Nat):Int)) h:=R7 6 (by decide) (by decide)
 have m6:u0 h (.int (M:Int)) (.int 6)=.ok (.int ((M%6:Nat):Int)) h:=G7 6 (by decide)
 have a1:(1:Int)+((M%6:Nat):Int)=((1+M%6:Nat):Int):=by omega
 have l6:M%6<6:=Nat.mod_lt _ (by decide)
 obtain⟨ns,nk,hN⟩:=Z3 (ct:=ct) (k:=k) (c:=M/6) (m:=1+M%6) (h:=h) f203 (by omega)
 generalize hm:1+M%6=m at nk hN a1;rw[i6 hF rfl];simp only[u5]
 show∃ls:List Lt,_/\_/\_/\gcR 2 h (Q4 (exs ct (b0 ct F (k+1)) _ [some (.int c),~~~s,none,none,none,none,none,none,none,none] h))=_
 rw[seq (env':=[some (.int c),~~~s,M⁻¹,none,none,none,none,none,none,none]) (h':=h) (by simp_arith[hM])]
 rw[seq (env':=[some (.int c),~~~s,M⁻¹,~~~h.length,none,none,none,none,none,none]) (h':=h++[.lst (ns.map .str)]) (by simp_arith[op2,d6,m6,l7,a1,hN])]
 have l1:(h++[Cell.lst (ns.map D.str)]).length=h.length+1:=by simp
 rw[seq (env':=[some (.int c),~~~s,M⁻¹,~~~h.length,some (.ref (h.length+1)),none,none,none,none,none]) (h':=h++[.lst (ns.map .str)]++[.lst []]) (by simp_arith[o5,l1])]
 have gN:(h++[Cell.lst (ns.map D.str)]++[Cell.lst []])[h.length]? =some (.lst (ns.map .str)):=b5 b6
 have gW:(h++[Cell.lst (ns.map D.str)]++[Cell.lst []])[h.length+1]? =some (.lst []):=by rw[←l1];exact b6
 have pf:Pf h (h++[Cell.lst (ns.map D.str)]++[Cell.lst []]):=((Pf.refl h).app _).app _
 generalize h++[Cell.lst (ns.map D.str)]++[Cell.lst []]=g at gN gW pf
 have len:biD .len g [.ref h.length]=.ok (.int (m:Int)) g:=by rw[A9 gN,aa,nk.len]
 obtain⟨env',g',e1,ls,e5,e6,e7,e8,e9,rfl,q2,q3,q4,q5,q6⟩:=B6 (g:=[]) (p:=.nm 5) (body:=exs ct (b0 ct F (k+1)) lB) (fun j env hh=>∃ls:List Lt,∃e5 e6 e7 e8 e9,env=[some (.int c),~~~s,M⁻¹,~~~h.length,some (.ref (h.length+1)),e5,e6,e7,e8,e9]/\Pf h hh/\hh[h.length]? =some (.lst (ns.map .str))/\hh[h.length+1]? =some (.lst (ls.map ltD))/\ls.map (·.n)=ns.take j/\∀l∈ls,LtOk sh l) (fun _ _ _ _=>rfl) ((List.range m).map fun i=>.int ((0:Int)+(i:Nat))) 0 [some (.int c),~~~s,M⁻¹,~~~h.length,some (.ref (h.length+1)),none,none,none,none,none] g (fun j x env hg hx hP=>by
  obtain⟨ls,e5,e6,e7,e8,e9,rfl,p1,p2,p3,p4,p5⟩:=hP;obtain⟨hj,rfl⟩:=a2J hx;rw[aB] at p4⊢
  have hj':j<ns.length:=by rw[nk.len];exact hj
  have ll:ls.length<=1000:=by
   have:=congrArg List.length p4
   rw[aa,aM] at this;omega
  obtain⟨l,x6,x7,x8,x9,g',t1,t2,t3,t4,t5,t6⟩:=a6g (ct:=ct) (k:=k) (c:=c) (N0:=M) f202 hs.lo hh hj' (by rw[nk.len];omega) ll (nk.ok _ (bw hj')) rfl p1 p2 p3 e6 e7 e8 e9
  refine⟨_,_,g',rfl,t3,ls++[l],_,_,_,_,_,rfl,t4,t5,t6,?_,fun y hy=>?_⟩
  · rw[al,p4,take_succ_eq_append_getElem hj',←t2];rfl
  · rcases aK.mp hy with hy|hy
    · exact p5 y hy
    · rw[aP.mp hy];exact t1) ⟨[],none,none,none,none,none,rfl,pf,gN,gW,rfl,fun _ h=>nomatch h⟩
 rw[aa,aI,aB,←nk.len,bn] at q5
 have ln:ls.length=m:=by rw[←nk.len,←q5,aa]
 refine⟨ls,by omega,by rw[q5];exact nk.nd,q6,?_⟩
 rw[seq (env':=[some (.int c),~~~s,M⁻¹,~~~h.length,some (.ref (h.length+1)),e5,e6,e7,e8,e9]) (h':=g') (by simp_arith[len,a0J (h:=g) (m:=m) (by omega),e1])]
 simp_arith[];exact a2d q2 q4 (Nat.le_succ _) (b1Q _)
end
structure Cs where
 n:Str
 fs:List Str
noncomputable def csD(c:Cs):D:=.tup [.str c.n,.tup (c.fs.map .str)]
structure CsOk(sh:List (Str×Nat))(c:Cs):Prop where
 nm:g9 c.n=true
 few:1<=c.fs.length/\c.fs.length<=20
 fs:∀f∈c.fs,f∈sh.map (·.1)
theorem b1R(ms:List Cs):D.flats (ms.map csD)=true:=D9 fun d hd=>by
 obtain⟨p,_,rfl⟩:=ak.mp hd
 show D.flats [.str p.n,.tup (p.fs.map .str)]=true
 simp only[D.flats,D.flat,L5,Bool.and_self]
theorem X3:∀{l:List D} {i j:Nat} {x:D},(x4 i l)[j]? =some x->∃d,l[j]? =some d/\x=.tup [.int ((i+j:Nat):Int),d]
 |[],i,j,x,h=>by simp[x4] at h
 |d::r,i,0,x,h=>by
  rw[x4] at h
  simp at h
  exact⟨d,rfl,h.symm⟩
 |d::r,i,j+1,x,h=>by
  rw[x4] at h;obtain⟨d',h1,h2⟩:=X3 (l:=r) (i:=i+1) (j:=j) (by simpa using h)
  refine⟨d',by simpa using h1,?_⟩
  rw[h2,show i+1+j=i+(j+1) by omega]
theorem R6:∀(l:List D) (i:Nat),(x4 i l).length=l.length
 |[],_=>rfl
 |d::r,i=>by rw[x4,length_cons,R6 r,length_cons]
section
variable{ct:CT}{F:Nat->Option Fn}
theorem b2Y{s N:Nat}(hs:4<=sh.length)(hh:g[s]? =some (.lst (shD sh)))(e1:env[1]? =some (~~~s))(e6:env[6]? =some (N⁻¹)):
 ev ct c smE env g=.ok (.ref g.length) (g++[.lst (((List.range (1+N%5)).map fun i=>pk sh (N/(i*13+5))).map .str)]):=by
 unfold smE
 have m20:u0 g (.int (N:Int)) (.int 5)=.ok (.int ((N%5:Nat):Int)) g:=G7 5 (by decide)
 have a1:(1:Int)+((N%5:Nat):Int)=((1+N%5:Nat):Int):=by omega
 have l20:N%5<5:=Nat.mod_lt _ (by decide)
 have r:=a0f (ct:=ct) (c:=c) (fr:=[6,1]) (a:=.bin .add (.i 1) (.bin .mod (.v 6) (.i 5))) (e:=(.ix (.ix (.v 2) (.bin .mod (.bin .div (.v 1) (.bin .add (.bin .mul (.v 0) (.i 13)) (.i 5))) (.bi .len (.o (.v 2))))) (.i 0))) (env:=env) (m:=1+N%5) (h:=g) (fun i=>.str (pk sh (N/(i*13+5)))) (by simp_arith[e6,op2,m20,l7,a1]) (by omega) (fun i hi=>by
  have m1:U7 g (.int (i:Int)) (.int 13)=.ok (.int ((i*13:Nat):Int)) g:=by rw[W0 (by decide)];congr 2
  have a5:((i*13:Nat):Int)+5=((i*13+5:Nat):Int):=by omega
  obtain⟨w,ix⟩:=b1p (x:=N/(i*13+5)) hs hh;simp_arith[e1,e6,W6,op2,m1,l7,a5,R7 (i*13+5) (by omega) (by omega),a7c hh,G7 sh.length (by omega),ix,a0x])
 rw[r,aH];rfl
variable(f202:F 202=some l0)(f203:F 203=some k7)
include f202 f203
theorem a7t{k s:Nat}{c:Int}(hF:F 209=some u6)(hs:Shs sh)(hh:h[s]? =some (.lst (shD sh))):∃ls:List Cs,(1<=ls.length/\ls.length<=9)/\(ls.map (·.n)).Nodup/\(∀l∈ls,CsOk sh l)/\b0 ct F (k+2) 209 [.int c,.ref s] h=.ok (.ref h.length) (h++[.lst (ls.map csD)]):=by
 obtain⟨M,hM⟩:=C1 (ct:=ct) (k:=k) (c:=c) (j:=3) (h:=h) f202 (by decide)
 have l1:(h++[Cell.lst []]).length=h.length+1:=by simp
 generalize hg:h++[Cell.lst []]=g0 at l1
 have d4:D3 g0 (.int (M:Int)) (.int 4)=.ok (.int ((M/4:Nat):Int)) g0:=R7 4 (by decide) (by decide)
 have m3:u0 g0 (.int (M:Int)) (.int 3)=.ok (.int ((M%3:Nat):Int)) g0:=G7 3 (by decide)
 have l3:M%3<3:=Nat.mod_lt _ (by decide)
 obtain⟨m,mb,me⟩:∃m:Nat,(1<=m/\m<=9)/\(1:Int)+((M%3:Nat):Int)=(m:Int):=⟨1+M%3,by omega,by omega⟩
 obtain⟨ns,nk,hN⟩:=Z3 (ct:=ct) (k:=k) (c:=M/4) (m:=m) (h:=g0) f203 (by omega)
 rw[i6 hF rfl];simp only[u6]
 show∃ls:List Cs,_/\_/\_/\gcR 2 h (Q4 (exs ct (b0 ct F (k+1)) _ [some (.int c),~~~s,none,none,none,none,none,none] h))=_
 rw[seq (env':=[some (.int c),~~~s,M⁻¹,none,none,none,none,none]) (h':=h) (by simp_arith[hM])]
 rw[seq (env':=[some (.int c),~~~s,M⁻¹,~~~h.length,none,none,none,none]) (h':=g0) (by simp_arith[o5,hg])]
 have gW:(g0++[Cell.lst (ns.map D.str)])[h.length]? =some (.lst []):=b5 (by rw[←hg];exact b6)
 have gN:(g0++[Cell.lst (ns.map D.str)])[h.length+1]? =some (.lst (ns.map .str)):=by rw[←l1];exact b6
 have pf:Pf h (g0++[Cell.lst (ns.map D.str)]):=by rw[←hg];exact((Pf.refl h).app _).app _
 rw[l1] at hN;generalize g0++[Cell.lst (ns.map D.str)]=g at gN gW pf hN
 obtain⟨env',g',e1,ls,e4,e5,e6,e7,rfl,q2,q3,q4,q5,q6⟩:=B6 (g:=[(h.length+1,.lst (ns.map .str))]) (p:=.tp (.cons (.nm 4) (.cons (.nm 5) .nil))) (body:=exs ct (b0 ct F (k+1)) kB) (fun j env hh=>∃ls:List Cs,∃e4 e5 e6 e7,env=[some (.int c),~~~s,M⁻¹,~~~h.length,e4,e5,e6,e7]/\Pf h hh/\hh[h.length+1]? =some (.lst (ns.map .str))/\hh[h.length]? =some (.lst (ls.map csD))/\ls.map (·.n)=ns.take j/\∀l∈ls,CsOk sh l) (fun j env gg hP=>by
  obtain⟨_,_,_,_,_,_,_,h3,_⟩:=hP;simp[gOk,h3]) (x4 0 (ns.map .str)) 0 [some (.int c),~~~s,M⁻¹,~~~h.length,none,none,none,none] g (fun j x env hg hx hP=>by
  obtain⟨ls,e4,e5,e6,e7,rfl,p1,p2,p3,p4,p5⟩:=hP;obtain⟨d,hd,rfl⟩:=X3 hx
  have hj:j<ns.length:=by simpa using(ac.mp hd).1
  rw[aj,af hj] at hd
  obtain rfl:D.str ns[j]=d:=ax hd;rw[aB] at p4⊢
  have a130:((j:Nat):Int)+130=((j+130:Nat):Int):=by omega
  have jl:=nk.len;obtain⟨N,hN⟩:=C1 (ct:=ct) (k:=k) (c:=c) (j:=((j+130:Nat):Int)) (h:=hg) f202 (by omega)
  have so:=b2Y (ct:=ct) (c:=b0 ct F (k+1)) (s:=s) (N:=N) (env:=[some (.int c),~~~s,M⁻¹,~~~h.length,j⁻¹,some (.str ns[j]),N⁻¹,e7]) (g:=hg) hs.lo (p1.at hh) rfl rfl
  have l20:N%5<5:=Nat.mod_lt _ (by decide)
  have fo:∀f∈(List.range (1+N%5)).map fun i=>pk sh (N/(i*13+5)),f∈sh.map (·.1):=fun f hf=>by
   obtain⟨i,_,rfl⟩:=ak.mp hf;exact(a7T hs.lo _).1
  have fl:((List.range (1+N%5)).map fun i=>pk sh (N/(i*13+5))).length=1+N%5:=by simp
  generalize ((List.range (1+N%5)).map fun i=>pk sh (N/(i*13+5)))=fs at so fo fl
  have ll:(ls.map csD).length<1000000:=by
   have:=congrArg List.length p4
   rw[aa,aM] at this;rw[aa];omega
  refine⟨_,[some (.int c),~~~s,M⁻¹,~~~h.length,j⁻¹,some (.str ns[j]),N⁻¹,~~~hg.length],(hg++[Cell.lst (fs.map .str)]).set h.length (.lst (ls.map csD++[csD ⟨ns[j],fs⟩])),rfl,?_,ls++[⟨ns[j],fs⟩],_,_,_,_,rfl,(p1.app _).set (ai _),b7 (by omega) (b5 p2),?_,?_,fun y hy=>?_⟩
  · show exs ct (b0 ct F (k+1)) kB [some (.int c),~~~s,M⁻¹,~~~h.length,j⁻¹,some (.str ns[j]),e6,e7] hg=_
    unfold kB;rw[seq (env':=[some (.int c),~~~s,M⁻¹,~~~h.length,j⁻¹,some (.str ns[j]),N⁻¹,e7]) (h':=hg) (by simp_arith[op2,l7,a130,hN])]
    rw[seq (env':=[some (.int c),~~~s,M⁻¹,~~~h.length,j⁻¹,some (.str ns[j]),N⁻¹,~~~hg.length]) (h':=hg++[.lst (fs.map .str)]) (by simp_arith[so])]
    simp_arith[C7 (b5 (g:=[.lst (fs.map .str)]) p3),a2h b6,K9 (b5 (g:=[.lst (fs.map .str)]) p3) ll,csD]
  · rw[x5 (b5 p3),al];rfl
  · rw[al,p4,take_succ_eq_append_getElem hj];rfl
  · rcases aK.mp hy with hy|hy
    · exact p5 y hy
    · rw[aP.mp hy];exact⟨nk.ok _ (bw hj),by simp only;omega,fo⟩) ⟨[],none,none,none,none,rfl,pf,gN,gW,rfl,fun _ h=>nomatch h⟩
 rw[R6,aa,aB,bn] at q5
 have ln:ls.length=m:=by rw[←nk.len,←q5,aa]
 refine⟨ls,by omega,by rw[q5];exact nk.nd,q6,?_⟩
 rw[seq (env':=[some (.int c),~~~s,M⁻¹,~~~h.length,e4,e5,e6,e7]) (h':=g') (by simp_arith[op2,d4,m3,l7,K0,eqS,me,hN,Y4,gN,e1])]
 simp_arith[];exact a2d q2 q4 (ai _) (b1R _)
end
theorem a1B(h:g9 z=true):z.length<=12:=(a2U h).2
noncomputable def feD(p:Str×Bool):D:=.tup [.str p.1,.bl p.2]
section
variable{ct:CT}{F:Nat->Option Fn}
theorem a8S{k m:Nat}{c:Int}{s l cl f:D}(f202:F 202=some l0)(f203:F 203=some k7)(hF:F 211=some z9)(hm:m=0):b0 ct F (k+2) 211 [.int c,.int (m:Int),s,l,cl,f] h=.ok (.ref h.length) (h++[.lst []]):=by
 subst hm
 have l1:(h++[Cell.lst []]).length=h.length+1:=by simp
 obtain⟨M,hM⟩:=C1 (ct:=ct) (k:=k) (c:=c) (j:=4) (h:=h++[Cell.lst []]) f202 (by decide)
 obtain⟨ns,nk,hN⟩:=Z3 (ct:=ct) (k:=k) (c:=M) (m:=0) (h:=h++[Cell.lst []]) f203 (by decide)
 obtain rfl:=List.eq_nil_of_length_eq_zero nk.len
 have gN:(h++[Cell.lst []]++[Cell.lst []])[(h++[Cell.lst []]).length]? =some (.lst []):=b6
 rw[i6 hF rfl];simp only[z9];simp_arith[o5,hM,show b0 ct F (k+1) 203 [.int (M:Int),.int ((0:Nat):Int)] (h++[Cell.lst []])=.ok (.ref (h++[Cell.lst []]).length) (h++[Cell.lst []]++[Cell.lst []]) from hN,Y4,gN,x4,V0,gOk,all_cons,all_nil,decide_true,Bool.and_self];exact a2d (((Pf.refl h).app _).app _) (b5 b6) (ai _) rfl
end
structure HL where
 sh:List (Str×Nat)
 mr:List Mk
 pt:List Pt
 ls:List Lt
 gp:List Str
 cs:List Cs
 fe:List (Str×Bool)
structure HLok(H:HL):Prop where
 sh:Shs H.sh
 mr:(H.mr.map (·.n)).Sublist (H.sh.map (·.1))
 mko:∀m∈H.mr,U3 m.s/\Y1 m.a/\Y1 m.b
 pt:(H.pt.map ptK).Nodup
 ptl:H.pt.length<=100
 pto:∀p∈H.pt,p.n∈H.sh.map (·.1)/\U3 p.s/\Y1 p.a
 ls:1<=H.ls.length/\H.ls.length<=6
 lsn:(H.ls.map (·.n)).Nodup
 lso:∀l∈H.ls,LtOk H.sh l
 gp:H.gp.Sublist (H.ls.map (·.n))
 cs:1<=H.cs.length/\H.cs.length<=9
 csn:(H.cs.map (·.n)).Nodup
 cso:∀c∈H.cs,CsOk H.sh c
 fe:1<=H.fe.length/\H.fe.length<=3
 fen:Nms (H.fe.map (·.1)) H.fe.length
structure HAt(H:HL)(g:AH)(a b c d e f i j:Nat):Prop where
 sh:g[a]? =some (.lst (shD H.sh))
 mr:g[b]? =some (.lst (H.mr.map mkD))
 pt:g[c]? =some (.lst (H.pt.map ptD))
 ls:g[d]? =some (.lst (H.ls.map ltD))
 gp:g[e]? =some (.lst (H.gp.map .str))
 cs:g[f]? =some (.lst (H.cs.map csD))
 fe:g[i]? =some (.lst (H.fe.map feD))
 ru:g[j]? =some (.lst [])
def feF(M:Nat)(x:D):D:=match x with
 |.tup [.int j,n]=>(match n with
  |.str n=>feD (n,decide ((0:Int)<((M/(j.toNat+5)%4:Nat):Int)))
  |_=>.non)
 |_=>.non
theorem b1U(M:Nat):∀(ns:List Str) (i:Nat),∃fe:List (Str×Bool),(x4 i (ns.map .str)).map (feF M)=fe.map feD/\fe.map (·.1)=ns
 |[],_=>⟨[],rfl,rfl⟩
 |n::ns,i=>by
  obtain⟨fe,h1,h2⟩:=b1U M ns (i+1);refine⟨(n,decide ((0:Int)<((M/(((i:Nat):Int).toNat+5)%4:Nat):Int)))::fe,?_,by rw[map_cons,h2]⟩
  rw[map_cons,x4,map_cons,h1];rfl
noncomputable def gpB(M:Nat)(x:D):Bool:=match x with
 |.tup [.int j,_]=>decide (((M/(7*j.toNat+9)%4:Nat):Int)=0)
 |_=>false
noncomputable def gpF(x:D):D:=match x with
 |.tup [_,.tup (n::_)]=>n
 |_=>.non
theorem b1E(M:Nat):∀(ls:List Lt) (i:Nat),∃gp:List Str,((x4 i (ls.map ltD)).filter (gpB M)).map gpF=gp.map .str/\gp.Sublist (ls.map (·.n))
 |[],_=>⟨[],rfl,.slnil⟩
 | l::ls,i=>by
  obtain⟨gp,h1,h2⟩:=b1E M ls (i+1);rw[map_cons,x4]
  cases hb:gpB M (.tup [.int (i:Nat),ltD l]) with
  |true=>
   refine⟨l.n::gp,?_,by rw[map_cons];exact h2.cons_cons _⟩
   rw[List.filter_cons_of_pos hb,map_cons,h1];rfl
  |false=>
   refine⟨gp,?_,by rw[map_cons];exact h2.cons _⟩
   rw[List.filter_cons_of_neg (by rw[hb];exact bv),h1]
section
variable{ct:CT}{F:Nat->Option Fn}
theorem b4m{d:Nat}(h4:env[4]? =some (~~~d))(h6:env[6]? =some (M⁻¹))(hd:g[d]? =some (.lst (ls.map ltD)))(hl:ls.length<=1000):∃gp:List Str,gp.Sublist (ls.map (·.n))/\ev ct c gpE env g=.ok (.ref g.length) (g++[.lst (gp.map .str)]):=by
 obtain⟨gp,g1,g2⟩:=b1E M ls 0;refine⟨gp,g2,?_⟩
 unfold gpE
 rw[Q9 (l:=x4 0 (ls.map ltD)) (g:=[(d,.lst (ls.map ltD))]) (h1:=g) (by simp_arith[h4,Y4,hd]) (by simp[gOk,hd]) (gpB M) gpF (fun x=>match x with|.tup [a,b]=>[some a,some b,M⁻¹]|_=>[]) (fun x hx=>by
  obtain⟨j,hj⟩:=List.mem_iff_getElem?.mp hx;obtain⟨y,hy,rfl⟩:=X3 hj
  have hj':j<ls.length:=by simpa using(ac.mp hy).1
  rw[aj,af hj'] at hy
  obtain rfl:ltD ls[j]=y:=ax hy;rw[aB]
  have m7:U7 g (.int 7) (.int (j:Int))=.ok (.int ((7*j:Nat):Int)) g:=by rw[W0 (by omega)];congr 2
  have a9:((7*j:Nat):Int)+9=((7*j+9:Nat):Int):=by omega
  have m4:∀a:Nat,u0 g (.int (a:Int)) (.int 4)=.ok (.int ((a%4:Nat):Int)) g:=fun a=>G7 4 (by decide)
  refine⟨by simp only[D8,N7,u9,map_cons,map_nil,h6,W6];rfl,?_,fun _=>?_⟩
  · simp_arith[op2,m7,l7,a9,R7 (7*j+9) (by omega) (by omega),m4,K0,eqS,gpB,Int.toNat_natCast]
  · unfold ltD;simp_arith[a0x,gpF]) (by rw[R6,aa];show _<=16777216;omega),g1]
theorem b1T{k:Nat}(f203:F 203=some k7)(h6:env[6]? =some (M⁻¹)):∃(fe:List (Str×Bool)) (t:Cell),(1<=fe.length/\fe.length<=3)/\Nms (fe.map (·.1)) fe.length/\ev ct (b0 ct F (k+1)) feE env g=.ok (.ref (g.length+1)) (g++[t]++[.lst (fe.map feD)]):=by
 have d3:D3 g (.int (M:Int)) (.int 3)=.ok (.int ((M/3:Nat):Int)) g:=R7 3 (by decide) (by decide)
 have m3:u0 g (.int (M:Int)) (.int 3)=.ok (.int ((M%3:Nat):Int)) g:=G7 3 (by decide)
 have a1:(1:Int)+((M%3:Nat):Int)=((1+M%3:Nat):Int):=by omega
 have l3:M%3<3:=Nat.mod_lt _ (by decide)
 obtain⟨ns,nk,hN⟩:=Z3 (ct:=ct) (k:=k) (c:=M/3) (m:=1+M%3) (h:=g) f203 (by omega)
 obtain⟨fe,h1,h2⟩:=b1U M ns 0
 have fl:fe.length=1+M%3:=by rw[←nk.len,←h2,aa]
 refine⟨fe,.lst (ns.map .str),by omega,by rw[h2,fl];exact nk,?_⟩
 have lg:(g++[Cell.lst (ns.map D.str)]).length=g.length+1:=by simp
 unfold feE
 rw[v7 (l:=x4 0 (ns.map .str)) (g:=[(g.length,.lst (ns.map .str))]) (h1:=g++[.lst (ns.map .str)]) (by simp_arith[h6,op2,d3,m3,l7,a1,hN,Y4,b6]) (by simp[gOk]) (feF M) (fun x=>match x with|.tup [a,b]=>[some a,some b,M⁻¹]|_=>[]) (fun x hx=>by
  obtain⟨j,hj⟩:=List.mem_iff_getElem?.mp hx;obtain⟨y,hy,rfl⟩:=X3 hj
  have hj':j<ns.length:=by simpa using(ac.mp hy).1
  rw[aj,af hj'] at hy
  obtain rfl:D.str ns[j]=y:=ax hy;rw[aB];have jl:=nk.len
  have a5:((j:Nat):Int)+5=((j+5:Nat):Int):=by omega
  have m4:∀(a:Nat) h,u0 h (.int (a:Int)) (.int 4)=.ok (.int ((a%4:Nat):Int)) h:=fun a h=>G7 4 (by decide)
  refine⟨by simp only[D8,N7,u9,map_cons,map_nil,h6,W6];rfl,?_⟩
  simp_arith[op2,l7,a5,R7 (j+5) (by omega) (by omega),m4,E8,feF,feD,Int.toNat_natCast]) (by rw[R6,aa,nk.len];show _<=16777216;omega),h1,lg]
variable(f201:F 201=some w8)(f202:F 202=some l0)(f203:F 203=some k7)(f204:F 204=some v8)(f205:F 205=some t8)(f206:F 206=some A8)(f207:F 207=some w5)(f208:F 208=some u5)(f209:F 209=some u6)(f211:F 211=some z9)
include f201 f202 f203 f204 f205 f206 f207 f208 f209 f211
theorem b4g{k m:Nat}(hF:F 212=some F9)(hr:h[n]? =some (.rol (ns.map .int)))(hm:m=0):
 ∃H g a b c d e f i j,HLok H/\Pf h g/\HAt H g a b c d e f i j/\b0 ct F (k+3) 212 [.ref n,.int (m:Int)] h=.ok (.tup [.ref a,.ref b,.ref c,.ref d,.ref e,.ref f,.ref i,.ref j]) g:=by
 obtain⟨c0,hc0⟩:=X5 (ct:=ct) (k:=k+1) (j:=0) f201 hr;obtain⟨sh,s1,s2⟩:=a8O (ct:=ct) (k:=k) (c:=c0) (h:=h) f202 f203 f204
 have P1:Pf h (h++[.lst (shD sh)]):=(Pf.refl h).app _
 have A1:(h++[Cell.lst (shD sh)])[h.length]? =some (.lst (shD sh)):=b6
 have st1:exs ct (b0 ct F (k+2)) (.cons (.set 2 (.call 201 (.cons (.v 0) (.o (.i 0))))) (.cons (.set 3 (.call 204 (.o (.v 2)))) hB2)) [~~~n,m⁻¹,none,none,none,none,none,none,none,none,none,none] h=exs ct (b0 ct F (k+2)) hB2 [~~~n,m⁻¹,some (.int c0),~~~h.length,none,none,none,none,none,none,none,none] (h++[.lst (shD sh)]):=by
  rw[seq (env':=[~~~n,m⁻¹,some (.int c0),none,none,none,none,none,none,none,none,none]) (h':=h) (by simp_arith[show b0 ct F (k+2) 201 [.ref n,.int 0] h=.ok (.int c0) h from hc0])]
  exact seq (by simp_arith[s2])
 generalize h++[Cell.lst (shD sh)]=g1 at P1 A1 st1;obtain⟨c1,hc1⟩:=X5 (ct:=ct) (k:=k+1) (j:=1) f201 (P1.at hr);obtain⟨ls,l1,l2,l3,l4⟩:=a7b (ct:=ct) (k:=k) (c:=c1) (h:=g1) f202 f203 f208 s1 A1
 have P2:Pf h (g1++[.lst (ls.map ltD)]):=P1.app _
 have A2:=b5 (g:=[.lst (ls.map ltD)]) A1
 have B2:(g1++[Cell.lst (ls.map ltD)])[g1.length]? =some (.lst (ls.map ltD)):=b6
 generalize hd:g1.length=d at l4 B2;generalize hg2:g1++[Cell.lst (ls.map ltD)]=g2 at P2 A2 B2 l4;obtain⟨c2,hc2⟩:=X5 (ct:=ct) (k:=k+1) (j:=2) f201 (P2.at hr);obtain⟨cs,k1,k2,k3,k4⟩:=a7t (ct:=ct) (k:=k) (c:=c2) (h:=g2) f202 f203 f209 s1 A2
 have P3:Pf h (g2++[.lst (cs.map csD)]):=P2.app _
 have A3:=b5 (g:=[.lst (cs.map csD)]) A2;have B3:=b5 (g:=[.lst (cs.map csD)]) B2
 have C3:(g2++[Cell.lst (cs.map csD)])[g2.length]? =some (.lst (cs.map csD)):=b6
 generalize hf:g2.length=f at k4 C3;generalize hg3:g2++[Cell.lst (cs.map csD)]=g3 at P3 A3 B3 C3 k4;obtain⟨c2',hc2'⟩:=X5 (ct:=ct) (k:=k+1) (j:=2) f201 (P3.at hr);obtain⟨M,hM⟩:=C1 (ct:=ct) (k:=k+1) (c:=c2') (j:=5) (h:=g3) f202 (by decide)
 obtain⟨fe,t,f1,f2,f3⟩:=b1T (ct:=ct) (k:=k+1) (M:=M) (env:=[~~~n,m⁻¹,some (.int c0),~~~h.length,~~~d,~~~f,M⁻¹,none,none,none,none,none]) (g:=g3) f203 rfl
 have lg:(g3++[t]).length=g3.length+1:=by simp
 have P4:Pf h (g3++[t]++[.lst (fe.map feD)]):=(P3.app _).app _
 have A4:=b5 (g:=[.lst (fe.map feD)]) (b5 (g:=[t]) A3);have B4:=b5 (g:=[.lst (fe.map feD)]) (b5 (g:=[t]) B3);have C4:=b5 (g:=[.lst (fe.map feD)]) (b5 (g:=[t]) C3)
 have D4:(g3++[t]++[Cell.lst (fe.map feD)])[g3.length+1]? =some (.lst (fe.map feD)):=by rw[←lg];exact b6
 generalize hi:g3.length+1=i at f3 D4;generalize hg4:g3++[t]++[Cell.lst (fe.map feD)]=g4 at P4 A4 B4 C4 D4 f3;obtain⟨c3,hc3⟩:=X5 (ct:=ct) (k:=k+1) (j:=3) f201 (P4.at hr);have r4:=a8S (ct:=ct) (k:=k) (c:=c3) (s:=.ref h.length) (l:=.ref d) (cl:=.ref f) (f:=.ref i) (h:=g4) f202 f203 f211 hm
 have P5:Pf h (g4++[.lst []]):=P4.app _
 have A5:=b5 (g:=[.lst []]) A4;have B5:=b5 (g:=[.lst []]) B4;have C5:=b5 (g:=[.lst []]) C4;have D5:=b5 (g:=[.lst []]) D4
 have E5:(g4++[Cell.lst []])[g4.length]? =some (.lst []):=b6
 generalize hj:g4.length=j at r4 E5;generalize hg5:g4++[Cell.lst []]=g5 at P5 A5 B5 C5 D5 E5 r4;obtain⟨gp,y1,y2⟩:=b4m (ct:=ct) (c:=b0 ct F (k+2)) (M:=M) (env:=[~~~n,m⁻¹,some (.int c0),~~~h.length,~~~d,~~~f,M⁻¹,~~~i,~~~j,none,none,none]) (g:=g5) rfl rfl B5 (by omega)
 have P6:Pf h (g5++[.lst (gp.map .str)]):=P5.app _
 have A6:=b5 (g:=[.lst (gp.map .str)]) A5
 have X6:Pf g5 (g5++[.lst (gp.map .str)]):=(Pf.refl _).app _
 have G6:(g5++[Cell.lst (gp.map .str)])[g5.length]? =some (.lst (gp.map .str)):=b6
 generalize he:g5.length=e at y2 G6;generalize hg6:g5++[Cell.lst (gp.map .str)]=g6 at P6 A6 X6 G6 y2;obtain⟨ms,m1,m2,m3⟩:=b1c (ct:=ct) (k:=k) (c:=c0) (h:=g6) f202 f205 f206 s1 A6
 have P7:Pf h (g6++[.lst (ms.map mkD)]):=P6.app _
 have A7:=b5 (g:=[.lst (ms.map mkD)]) A6
 have X7:Pf g6 (g6++[.lst (ms.map mkD)]):=(Pf.refl _).app _
 have M7:(g6++[Cell.lst (ms.map mkD)])[g6.length]? =some (.lst (ms.map mkD)):=b6
 generalize hb:g6.length=b at m3 M7;generalize hg7:g6++[Cell.lst (ms.map mkD)]=g7 at P7 A7 X7 M7 m3;obtain⟨ps,p1,p2,p3,p4⟩:=a8Y (ct:=ct) (k:=k) (c:=c0) (h:=g7) f202 f205 f207 s1 A7
 have P8:Pf h (g7++[.lst (ps.map ptD)]):=P7.app _
 have X8:Pf g7 (g7++[.lst (ps.map ptD)]):=(Pf.refl _).app _
 have N8:(g7++[Cell.lst (ps.map ptD)])[g7.length]? =some (.lst (ps.map ptD)):=b6
 generalize hc:g7.length=c at p4 N8;generalize hg8:g7++[Cell.lst (ps.map ptD)]=g8 at P8 X8 N8 p4;have X58:=(X6.trans X7).trans X8;refine⟨⟨sh,ms,ps,ls,gp,cs,fe⟩,g8,h.length,b,c,d,e,f,i,j,⟨s1,m1,m2,p1,p2,p3,l1,l2,l3,y1,k1,k2,k3,f1,f2⟩,P8,⟨X58.at A5,X8.at M7,N8,X58.at B5,(X7.trans X8).at G6,X58.at C5,X58.at D5,X58.at E5⟩,?_⟩
 rw[i6 hF rfl];simp only[F9];rw[gc0]
 show Q4 (exs ct (b0 ct F (k+2)) (.cons (.set 2 (.call 201 (.cons (.v 0) (.o (.i 0))))) (.cons (.set 3 (.call 204 (.o (.v 2)))) hB2)) [~~~n,m⁻¹,none,none,none,none,none,none,none,none,none,none] h)=_
 rw[st1];unfold hB2;rw[seq (env':=[~~~n,m⁻¹,some (.int c0),~~~h.length,~~~d,none,none,none,none,none,none,none]) (h':=g2) (by simp_arith[show b0 ct F (k+2) 201 [.ref n,.int 1] g1=.ok (.int c1) g1 from hc1,l4])]
 rw[seq (env':=[~~~n,m⁻¹,some (.int c0),~~~h.length,~~~d,~~~f,none,none,none,none,none,none]) (h':=g3) (by simp_arith[show b0 ct F (k+2) 201 [.ref n,.int 2] g2=.ok (.int c2) g2 from hc2,k4])]
 rw[seq (env':=[~~~n,m⁻¹,some (.int c0),~~~h.length,~~~d,~~~f,M⁻¹,none,none,none,none,none]) (h':=g3) (by simp_arith[show b0 ct F (k+2) 201 [.ref n,.int 2] g3=.ok (.int c2') g3 from hc2',hM])]
 unfold hB3;rw[seq (env':=[~~~n,m⁻¹,some (.int c0),~~~h.length,~~~d,~~~f,M⁻¹,~~~i,none,none,none,none]) (h':=g4) (by simp_arith[f3])]
 rw[seq (env':=[~~~n,m⁻¹,some (.int c0),~~~h.length,~~~d,~~~f,M⁻¹,~~~i,~~~j,none,none,none]) (h':=g5) (by simp_arith[show b0 ct F (k+2) 201 [.ref n,.int 3] g4=.ok (.int c3) g4 from hc3,r4])]
 unfold hB4;rw[seq (env':=[~~~n,m⁻¹,some (.int c0),~~~h.length,~~~d,~~~f,M⁻¹,~~~i,~~~j,~~~e,none,none]) (h':=g6) (by simp_arith[y2])]
 rw[seq (env':=[~~~n,m⁻¹,some (.int c0),~~~h.length,~~~d,~~~f,M⁻¹,~~~i,~~~j,~~~e,~~~b,none]) (h':=g7) (by simp_arith[m3])]
 rw[seq (env':=[~~~n,m⁻¹,some (.int c0),~~~h.length,~~~d,~~~f,M⁻¹,~~~i,~~~j,~~~e,~~~b,~~~c]) (h':=g8) (by simp_arith[p4])]
 have s8:(8<=SL)=True:=eq_true (by decide)
 simp_arith[s8]
end
noncomputable def num(i:Int):Str:=Str.ofString (toString i)
def ln(ws:List Str):Str:=Txt.join " " ws
theorem a6z(ws:List Str):cd (ln ws)=jn 32 (ws.map cd):=by
 show cd (Builtin.Str.glued " " _)=_
 rw[StrLaws.glued_eq_join];exact a2y 32 ws
theorem a3Q(h:cd x=jn 32 (ws.map cd)):x=ln ws:=a0W (h.trans (a6z ws).symm)
def J9(p:Str×Nat):List Str:=["shape",p.1,num p.2]
def D2(p:Int×Int):List Str:=[num p.1,num p.2]
def P9(m:Mk):List Str:=["mark",m.n,m.s,num m.a.1,num m.a.2,num m.b.1,num m.b.2]
def T8(p:Pt):List Str:=["point",p.n,p.s,num p.a.1,num p.a.2]
noncomputable def J1(l:Lt):List Str:="letter"::l.n::l.j::l.w::l.fs
def a2a(n:Str):List Str:=["gap",n]
noncomputable def N4(c:Cs):List Str:="class"::c.n::c.fs
noncomputable def a6V(b:Bool):Str:=if b then "on" else "off"
def Y2(p:Str×Bool):List Str:=["feature",p.1,a6V p.2]
def G3(H:HL):List (List Str):=H.sh.map J9++H.mr.map P9++H.pt.map T8++H.ls.map J1++H.gp.map a2a++H.cs.map N4++H.fe.map Y2
theorem a2s{i:Int}(h: -99999<=i/\i<=99999):(num i).length<=7:=by
 unfold num;rw[ofString_length];exact int_text_length_le10 (a:=i) (k:=6) (by decide) (by omega)
theorem a1y{i:Int}(hi: -99999<=i/\i<=99999):biD .str h [.int i]=.ok (.str (num i)) h:=by
 simp only[biD];rw[ay]
 · rfl
 · by_cases h0:i.natAbs=0
   · rw[h0];decide
   · exact(Nat.log2_lt h0).mpr (aC (show i.natAbs<2^17 by omega) (Nat.pow_le_pow_right (by decide) (by decide)))
theorem E2:(Str.ofString " ").length=1:=rfl
theorem a4t(h:∀w∈ws,w.length<=b):(ws.map (·.length)).sum<=ws.length*b:=by
 induction ws with
 |nil=>simp
 |cons x r ih=>
  rw[map_cons,sum_cons,length_cons]
  have:=ih fun w hw=>h w (.tail _ hw)
  have:=h x (.head _)
  rw[Nat.add_mul];omega
theorem b1i(h:∀w∈ws,w.length<=b):(ln ws).length<=ws.length*(b+1):=by
 show(Builtin.Str.glued " " ws).length<=_
 rw[StrLaws.glued_eq_join];refine aU (StrLaws.join_length_le _ _) ?_
 have:=a4t h
 rw[E2,Nat.mul_add];omega
theorem b5f(h:∀w∈ws,w.length<=20)(hl:ws.length<=100):JoinOk " " ws=true:=by
 have:=a4t h
 exact a4U (by rw[E2];omega)
variable{ys:List Str}{p:Pat}{nb:Nat}
section
variable{ct:CT}{F:Nat->Option Fn}
theorem a2N{k:Nat}{p:Int×Int}(hF:F 213=some w6)(hp:Y1 p):b0 ct F (k+1) 213 [spD p] h=.ok (.str (ln (D2 p))) h:=by
 rw[i6 hF rfl];simp only[w6]
 have i0:ixD h (spD p) (.int 0)=.ok (.int p.1) h:=ix_tup (i:=0) rfl
 have i1:ixD h (spD p) (.int 1)=.ok (.int p.2) h:=ix_tup (i:=1) rfl
 have l1:=a2s hp.1;have l2:=a2s hp.2;simp_arith[i0,i1,a1y hp.1,a1y hp.2,op2,o0 (h:=h) (x:=num p.1) (y:=" ") (by rw[E2];omega),o0 (h:=h) (x:=num p.1++(" ":Str)) (y:=num p.2) (by rw[j9,E2];omega)]
 rw[show(num p.1++(" ":Str))++num p.2=ln (D2 p) from a3Q (by rw[K8,K8,show cd (Str.ofString " ")=[32] from rfl];show cd (num p.1)++[32]++cd (num p.2)=cd (num p.1)++32::cd (num p.2);simp)]
 exact K2 rfl
theorem a5x{a:Nat}{ys:List D}(h1:g[a]? =some (.lst xs))(h2:g[b]? =some (.lst ys))(hl:xs.length+ys.length<=100000):Y3 g (.ref a) (.ref b)=.ok (.ref g.length) (g++[.lst (xs++ys)]):=b4X h1 h2 hl
theorem b1j:biD .list h [.tup xs]=.ok (.ref h.length) (h++[.lst xs]):=rfl
theorem a4V(h1:g[n]? =some (.lst (ts.map .str)))(jo:JoinOk sep ts=true):mtD .join g (.str sep) [.ref n]=.ok (.str (Txt.join sep ts)) g:=by
 have:rdL g n=some (ts.map .str):=by unfold rdL;rw[h1]
 simp only[mtD,this,a1x];rw[ay jo]
theorem a6v{a:E}{s:Nat}{fr:List Nat}{l:List α}(rp:α->D)(f:α->Str)(envf:α->n5)(ha:ev ct c a env h=.ok (.ref s) h)(hs:h[s]? =some (.lst (l.map rp)))(hl:l.length<=1000)
 (hx:∀x∈l,D8 p (rp x) (u9 nb fr env)=some (envf x)/\∀h,∃t,ev ct c e (envf x) h=.ok (.str (f x)) (h++t)):∃t,ev ct c (.comp p (.seq a) nb fr .yes e) env h=.ok (.ref (h++t).length) (h++t++[.lst ((l.map f).map .str)]):=by
 have key:∀(l':List α) (acc:List D) (h':AH),(∀t,gOk [(s,.lst (l.map rp))] (h'++t)=true)->(∀x∈l',D8 p (rp x) (u9 nb fr env)=some (envf x)/\∀h,∃t,ev ct c e (envf x) h=.ok (.str (f x)) (h++t))->acc.length+l'.length<=SL->∃t,D7 [(s,.lst (l.map rp))] p (tst ct c .yes) (ev ct c e) (u9 nb fr env) (l'.map rp) acc h'=.ok (acc++(l'.map f).map .str) (h'++t):=by
  intro l'
  induction l' with
  |nil=>
   intro acc h' g1 _ _;have g0:=g1 [];rw[bh] at g0;exact⟨[],by rw[map_nil,D7,ay g0];simp⟩
  |cons x r ih=>
   intro acc h' g1 hx' hl';have g0:=g1 [];rw[bh] at g0;obtain⟨b1,b2⟩:=hx' x (.head _);obtain⟨t,b2⟩:=b2 h';rw[length_cons] at hl';obtain⟨u,ih⟩:=ih (acc++[.str (f x)]) (h'++t) (fun u=>by rw[aA];exact g1 _) (fun y hy=>hx' y (.tail _ hy)) (by rw[ao];simp;omega)
   refine⟨t++u,?_⟩
   rw[map_cons,D7,ay g0,b1]
   simp only
   rw[a2i,b9,ay rfl,b2,b9,ay (by omega),ih]
   simp
 obtain⟨t,kt⟩:=key l [] h (fun t=>by simp[gOk,b5 (g:=t) hs]) hx (by show 0+_<=16777216;omega)
 refine⟨t,?_⟩
 rw[a1q (x:=(l.map rp,[(s,.lst (l.map rp))])) (h1:=h) (h2:=h++t) (ds:=(l.map f).map .str) (by rw[a5k,ha,b9];simp only[V6,hs]) (by rw[kt,nil_append])]
end
section
variable{ct:CT}{F:Nat->Option Fn}
def EvL(ct:CT)(c:CF)(e:E)(env:n5)(h:AH)(xs:List Str):Prop:=∃n t,ev ct c e env h=.ok (.ref n) (h++t)/\(h++t)[n]? =some (.lst (xs.map .str))/\(h.length<=n∨t=[])
theorem X2{a b:E}{xs:List Str}(A:EvL ct c a env h xs)(B:∀t,EvL ct c b env (h++t) ys)(hl:xs.length+ys.length<=100000):EvL ct c (.bin .add a b) env h (xs++ys):=by
 obtain⟨n,t,a1,a2,_⟩:=A;obtain⟨m,u,b1,b2,_⟩:=B t;refine⟨(h++t++u).length,t++u++[.lst ((xs++ys).map .str)],?_,?_,.inl (by simp[ao,Nat.add_assoc])⟩
 · simp_arith[a1,b1,op2,a5x (b5 (g:=u) a2) b2 (by rw[aa,aa];exact hl)]
   simp
 · rw[show h++(t++u++[Cell.lst ((xs++ys).map .str)])=h++t++u++[.lst ((xs++ys).map .str)] by simp]
   exact b6
theorem O5{es:Es}{xs:List Str}(e:evs ct c es env h=.ok (xs.map .str) h)(hl:xs.length<=1000):EvL ct c (.lst es) env h xs:=by
 refine⟨h.length,[.lst (xs.map .str)],?_,b6,.inl (ai _)⟩
 rw[b2c,e,b9,ay (by rw[aa];show _<=16777216;omega)]
 rfl
theorem a1p{a:E}{xs:List Str}(e:ev ct c a env h=.ok (.tup (xs.map .str)) h):EvL ct c (.bi .list (.cons a .nil)) env h xs:=by
 refine⟨h.length,[.lst (xs.map .str)],?_,b6,.inl (ai _)⟩
 simp_arith[e,b1j]
theorem a6p{xs:List Str}(A:EvL ct c e env h xs)(jo:JoinOk sep xs=true):∃t,ev ct c (.mt .join (.k (.str sep)) (.cons e .nil)) env h=.ok (.str (Txt.join sep xs)) (h++t):=by
 obtain⟨n,t,a1,a2,_⟩:=A;refine⟨t,?_⟩
 simp_arith[mtT,a1,a4V a2 jo]
end
theorem a0V(n:Nat):cd (num (n:Int))=(Nat.toDigits 10 n).map Char.toNat:=W.KIN.signs_num n
theorem b1B(n:Nat):n≠0->((Nat.toDigits 10 n).map Char.toNat).head?≠some 48:=by
 induction n using Nat.strongRecOn with
 |_ n ih=>
  intro h0
  by_cases h:n<10
  · rw[Nat.toDigits_of_lt_base h,map_cons,List.head?_cons,Nat.toNat_digitChar_of_lt_ten h]
    intro e
    have:=ax e
    omega
  · rw[Nat.toDigits_of_base_le (by decide) (by omega),al]
    have hn:=ih (n/10) (by omega) (by omega)
    cases hd:Nat.toDigits 10 (n/10) with
    |nil=>exact absurd hd Nat.toDigits_ne_nil
    |cons a r=>rw[hd] at hn;exact hn
theorem a5f(n:Nat):(cd (num (n:Int))).all T0=true:=by
 rw[a0V];refine bu.mpr fun c hc=>?_
 obtain⟨d,hd,rfl⟩:=ak.mp hc
 have:=Nat.isDigit_of_mem_toDigits (by decide) (by decide) hd
 rw[a5g];unfold Char.isDigit at this;simp only[ae,decide_eq_true_eq] at this;exact⟨this.1,this.2⟩
theorem a2R(h:n<=99999):U8 (num (n:Int))=some (n:Int):=by
 have l5:(num (n:Int)).length<=5:=by
  rw[←o7,a0V,aa];exact(Nat.length_toDigits_le_iff (by decide) (by decide)).mpr (by omega)
 have l1:(num (n:Int)).length≠0:=by
  rw[←o7,a0V,aa];exact fun e=>Nat.toDigits_ne_nil (length_eq_zero_iff.mp e)
 unfold U8;rw[ay (a5f n),az,a0V,W.KIN.val_back];rintro(e|e|⟨e1,e2⟩)
 · exact l1 ((a9i _).mp e)
 · omega
 · rw[a0V] at e1
   by_cases h0:n=0
   · rw[h0] at e2;exact absurd e2 (by decide)
   · exact b1B n h0 e1
theorem a5p(m:Nat):cd (num (Int.negSucc m))=45::cd (num ((m+1:Nat):Int)):=by
 rw[a0V]
 show(Str.ofString ("-"++Nat.repr (m+1))).cps.toList=_
 rw[Str.ofString_eq_toList];simp[Nat.toList_repr]
theorem G9{i:Int}(h: -99999<=i/\i<=99999):a0z (num i)=some i:=by
 unfold a0z
 cases i with
 |ofNat n=>
  have h2:(n:Int)<=99999:=h.2
  rw[az]
  · exact a2R (by omega)
  · intro e
    cases hc:cd (num (Int.ofNat n)) with
    |nil=>rw[hc] at e;cases e
    |cons c r=>
     rw[hc] at e;have e:=ax e
     have:=a5f n
     rw[show cd (num (n:Int))=c::r from hc,all_cons,e] at this;rw[show T0 45=false from by decide+kernel] at this
     exact Bool.noConfusion this
 |negSucc m=>
  have h1:=h.1;rw[Int.negSucc_eq] at h1
  have t:tl (num (Int.negSucc m))=num ((m+1:Nat):Int):=a0W (by rw[a8B,a5p];rfl)
  rw[ay (by rw[a5p];rfl),t,a2R (by omega)]
  simp only
  rw[az (by omega)]
  congr 1
structure WOk(w:Str):Prop where
 l:w.length<=20
 p:w.length≠0
 c:∀c∈cd w,c≠32/\c≠10
theorem WOk.num{i:Int}(h: -99999<=i/\i<=99999):WOk (num i):=by
 have fg:∀n:Nat,∀c∈cd (EV.num (n:Int)),c≠32/\c≠10:=fun n c hc=>by
  have:=(a5g c).mp (bu.mp (a5f n) c hc)
  omega
 refine⟨by have:=a2s h;omega,?_,?_⟩
 · rw[←o7]
   cases i with
   |ofNat n=>
    show(cd (EV.num (n:Int))).length≠0
    rw[a0V,aa];exact fun e=>Nat.toDigits_ne_nil (length_eq_zero_iff.mp e)
   |negSucc m=>rw[a5p];exact Nat.succ_ne_zero _
 · cases i with
   |ofNat n=>exact fg n
   |negSucc m=>
    rw[a5p];intro c hc
    rcases aE.mp hc with rfl|hc
    · decide
    · exact fg _ c hc
theorem b3c{c:Nat}(h:Q6 c=true):c≠32/\c≠10:=by
 unfold Q6 at h;have h:=aw h
 have:∀c∈cd a1b,c≠32/\c≠10:=by decide+kernel
 exact this c h
theorem WOk.name{w:Str}(h:g9 w=true):WOk w:=by
 unfold g9 at h;simp only[ae,decide_eq_true_eq] at h;exact⟨by omega,by omega,fun c hc=>b3c (bu.mp h.2 c hc)⟩
structure Row(ws:List Str):Prop where
 n:ws≠[]
 l:ws.length<=40
 w:∀w∈ws,WOk w
instance (w:Str):Decidable (w.length<=20/\w.length≠0/\∀c∈cd w,c≠32/\c≠10):=inferInstance
theorem WOk.k{w:Str}(h:w.length<=20/\w.length≠0/\∀c∈cd w,c≠32/\c≠10):WOk w:=⟨h.1,h.2.1,h.2.2⟩
theorem Row.nil:∀w∈([]:List Str),WOk w:=fun _ h=>nomatch h
theorem i9{a:Str}{r:List Str}(h:WOk a)(hr:∀w∈r,WOk w):∀w∈a::r,WOk w:=fun w hw=>by
 rcases aE.mp hw with rfl|hw
 · exact h
 · exact hr w hw
section
variable{H:HL}(K:HLok H)
include K
theorem V5{n:Str}(h:n∈H.sh.map (·.1)):g9 n=true:=by
 obtain⟨p,hp,rfl⟩:=ak.mp h;exact(K.sh.ok p hp).1
theorem a7F{s:Str}(h:U3 s):WOk s:=by
 rcases h with rfl|rfl<;>exact WOk.k (by decide+kernel)
theorem a4O{m:Mk}(h:m∈H.mr):m.n∈H.sh.map (·.1):=K.mr.subset (ak.mpr ⟨m,h,rfl⟩)
theorem a5h{f:Str}(h:f∈H.fe.map (·.1)):g9 f=true:=K.fen.ok f h
theorem a3I{p:Str×Nat}(h:p∈H.sh):Row (J9 p):=by
 have k:=K.sh.ok p h;exact⟨cons_ne_nil _ _,Nat.le_of_ble_eq_true rfl,i9 (WOk.k (by decide+kernel)) (i9 (WOk.name k.1) (i9 (WOk.num (by have:=k.2;omega)) Row.nil))⟩
theorem a5R{m:Mk}(h:m∈H.mr):Row (P9 m):=by
 obtain⟨k1,k2,k3⟩:=K.mko m h;exact⟨cons_ne_nil _ _,Nat.le_of_ble_eq_true rfl,i9 (WOk.k (by decide+kernel)) (i9 (WOk.name (V5 K (a4O K h))) (i9 (a7F K k1) (i9 (WOk.num k2.1) (i9 (WOk.num k2.2) (i9 (WOk.num k3.1) (i9 (WOk.num k3.2) Row.nil))))))⟩
theorem a3J{p:Pt}(h:p∈H.pt):Row (T8 p):=by
 obtain⟨k1,k2,k3⟩:=K.pto p h;exact⟨cons_ne_nil _ _,Nat.le_of_ble_eq_true rfl,i9 (WOk.k (by decide+kernel)) (i9 (WOk.name (V5 K k1)) (i9 (a7F K k2) (i9 (WOk.num k3.1) (i9 (WOk.num k3.2) Row.nil))))⟩
theorem a0I{l:Lt}(h:l∈H.ls):Row (J1 l):=by
 have k:=K.lso l h;have kl:=k.few;refine⟨cons_ne_nil _ _,by unfold J1;simp only[length_cons];omega,i9 (WOk.k (by decide+kernel)) (i9 (WOk.name k.nm) (i9 ?_ (i9 ?_ fun w hw=>WOk.name (V5 K (k.fs w hw)))))⟩
 · rcases k.js with e|e|e|e<;>rw[e]<;>exact WOk.k (by decide+kernel)
 · rcases k.ws with e|e|e<;>rw[e]<;>exact WOk.k (by decide+kernel)
theorem a5b{n:Str}(h:n∈H.gp):g9 n=true:=by
 obtain⟨l,hl,rfl⟩:=ak.mp (K.gp.subset h);exact(K.lso l hl).nm
theorem a7M{n:Str}(h:n∈H.gp):Row (a2a n):=⟨cons_ne_nil _ _,Nat.le_of_ble_eq_true rfl,i9 (WOk.k (by decide+kernel)) (i9 (WOk.name (a5b K h)) Row.nil)⟩
theorem a1A{c:Cs}(h:c∈H.cs):Row (N4 c):=by
 have k:=K.cso c h;have kl:=k.few;exact⟨cons_ne_nil _ _,by unfold N4;simp only[length_cons];omega,i9 (WOk.k (by decide+kernel)) (i9 (WOk.name k.nm) fun w hw=>WOk.name (V5 K (k.fs w hw)))⟩
theorem a5S{p:Str×Bool}(h:p∈H.fe):Row (Y2 p):=by
 refine⟨cons_ne_nil _ _,Nat.le_of_ble_eq_true rfl,i9 (WOk.k (by decide+kernel)) (i9 (WOk.name (a5h K (ak.mpr ⟨p,h,rfl⟩))) (i9 ?_ Row.nil))⟩
 cases p.2<;>exact WOk.k (by decide+kernel)
theorem a4B:∀ws∈G3 H,Row ws:=fun ws h=>by
 unfold G3 at h;simp only[aK,ak] at h
 rcases h with(((((⟨x,h,rfl⟩|⟨x,h,rfl⟩)|⟨x,h,rfl⟩)|⟨x,h,rfl⟩)|⟨x,h,rfl⟩)|⟨x,h,rfl⟩)|⟨x,h,rfl⟩
 · exact a3I K h
 · exact a5R K h
 · exact a3J K h
 · exact a0I K h
 · exact a7M K h
 · exact a1A K h
 · exact a5S K h
theorem a7B{f:α->β}{l:List α}{s:List β}(h:(l.map f).Sublist s):l.length<=s.length:=by
 have:=h.length_le
 rw[aa] at this;exact this
theorem Q3:(G3 H).length<=300/\G3 H≠[]:=by
 have a:=K.sh.hi;have a0:=K.sh.lo;have b:=a7B K K.mr;rw[aa] at b;have c:=K.ptl;have d:=K.ls;have e:=K.gp.length_le;rw[aa] at e;have f:=K.cs;have g:=K.fe
 have l:(G3 H).length=H.sh.length+H.mr.length+H.pt.length+H.ls.length+H.gp.length+H.cs.length+H.fe.length:=by
  unfold G3;simp only[ao,aa]
 exact⟨by omega,fun z=>by rw[z] at l;simp only[length_nil] at l;omega⟩
end
theorem b0j(r:Row ws):L6 (ln ws)=ws:=by
 unfold L6;rw[show Txt.split (ln ws) " "=ws from a2E (c:=32) r.n (fun p hp hc=>((r.w p hp).c 32 hc).1 rfl) (a6z ws)]
 exact List.filter_eq_self.mpr fun w hw=>bm fun e=>(r.w w hw).p ((a9i w).mp e)
theorem b1m{c x:Nat}:∀{ps:List (List Nat)},x∈jn c ps->x=c∨∃p∈ps,x∈p
 |[],h=>nomatch h
 |[p],h=>.inr ⟨p,.head _,h⟩
 |p::q::r,h=>by
  rcases aK.mp (show x∈p++c::jn c (q::r) from h) with h|h
  · exact .inr ⟨p,.head _,h⟩
  · rcases aE.mp h with h|h
    · exact .inl h
    · rcases b1m h with h|⟨y,hy,h⟩
      · exact .inl h
      · exact .inr ⟨y,.tail _ hy,h⟩
theorem b0i(r:Row ws):10∉cd (ln ws):=fun h=>by
 rw[a6z] at h
 rcases b1m h with h|⟨p,hp,h⟩
 · exact absurd h (by decide)
 · obtain⟨w,hw,rfl⟩:=ak.mp hp;exact((r.w w hw).c 10 h).2 rfl
theorem a7L(r:Row ws):(ln ws).length<=840:=by
 have:=b1i (ws:=ws) (b:=20) fun w hw=>(r.w w hw).l
 have l:=r.l
 have:ws.length*21<=40*21:=Nat.mul_le_mul_right 21 l
 omega
def M5(H:HL):Str:=Txt.join "\n" ((G3 H).map ln)
theorem a8G{H:HL}(K:HLok H):Txt.split (M5 H) "\n"=(G3 H).map ln:=by
 refine a2E (c:=10) (fun e=>(Q3 K).2 (List.map_eq_nil_iff.mp e)) (fun p hp=>?_) ?_
 · obtain⟨ws,hw,rfl⟩:=ak.mp hp;exact b0i (a4B K ws hw)
 · show cd (Builtin.Str.glued "\n" _)=_
   rw[StrLaws.glued_eq_join];exact a2y 10 _
theorem a5P{H:HL}(K:HLok H):(((G3 H).map ln).map (·.length)).sum<=300*840:=by
 have:=a4t (ws:=(G3 H).map ln) (b:=840) fun w hw=>by
  obtain⟨ws,hq,rfl⟩:=ak.mp hw;exact a7L (a4B K ws hq)
 rw[aa] at this;have l:=(Q3 K).1;exact aU this (Nat.mul_le_mul_right _ l)
theorem b2H{H:HL}(K:HLok H):(M5 H).length<=1000000:=by
 have:=a5P K
 have l:=(Q3 K).1
 show(Builtin.Str.glued "\n" _).length<=_
 rw[StrLaws.glued_eq_join];refine aU (StrLaws.join_length_le _ _) ?_
 rw[aa,show(Str.ofString "\n").length=1 from rfl];omega
theorem a9J{H:HL}(K:HLok H):JoinOk "\n" ((G3 H).map ln)=true:=by
 have:=a5P K
 have l:=(Q3 K).1;exact a4U (by rw[aa,show(Str.ofString "\n").length=1 from rfl];omega)
theorem k32:cd (Str.ofString " ")=[32]:=rfl
theorem b2P(n w:Str):(("shape ":Str)++n++(" ":Str))++w=ln ["shape",n,w]:=a3Q (by
 simp only[K8,k32,show cd (Str.ofString "shape ")=cd (Str.ofString "shape")++[32] from by decide+kernel,map_cons,map_nil,jn,aA,cons_append,nil_append])
theorem b7Y(n:Str):("gap ":Str)++n=ln ["gap",n]:=a3Q (by
 simp only[K8,show cd (Str.ofString "gap ")=cd (Str.ofString "gap")++[32] from by decide+kernel,map_cons,map_nil,jn,aA,cons_append,nil_append])
theorem b5w(n w:Str):(("feature ":Str)++n++(" ":Str))++w=ln ["feature",n,w]:=a3Q (by
 simp only[K8,k32,show cd (Str.ofString "feature ")=cd (Str.ofString "feature")++[32] from by decide+kernel,map_cons,map_nil,jn,aA,cons_append,nil_append])
theorem b2Q(n s a b:Str):((((("point ":Str)++n)++(" ":Str))++s)++(" ":Str))++ln [a,b]=ln ["point",n,s,a,b]:=a3Q (by
 simp only[K8,k32,a6z,show cd (Str.ofString "point ")=cd (Str.ofString "point")++[32] from by decide+kernel,map_cons,map_nil,jn,aA,cons_append,nil_append])
theorem b5v(n s a b c d:Str):((((("mark ":Str)++n)++(" ":Str))++s)++(" ":Str))++((ln [a,b]++(" ":Str))++ln [c,d])=ln ["mark",n,s,a,b,c,d]:=a3Q (by
 simp only[K8,k32,a6z,show cd (Str.ofString "mark ")=cd (Str.ofString "mark")++[32] from by decide+kernel,map_cons,map_nil,jn,aA,cons_append,nil_append])
def TS(T:D)(h0:AH)(env:n5)(h:AH)(xs:List Str):Prop:=∃n e1 e3 e4 e5 e6 e7 e8 e9,env=[some T,e1,~~~n,e3,e4,e5,e6,e7,e8,e9]/\Pf h0 h/\h0.length<=n/\h[n]? =some (.lst (xs.map .str))
section
variable{ct:CT}{F:Nat->Option Fn}
theorem a0c{a:E}{s:Nat}{fr:List Nat}{l:List α}(rp:α->D)(f:α->Str)(envf:α->n5)(ha:ev ct c a env h=.ok (.ref s) h)(hs:h[s]? =some (.lst (l.map rp)))(hl:l.length<=1000)
 (hx:∀x∈l,D8 p (rp x) (u9 nb fr env)=some (envf x)/\∀h,∃t,ev ct c e (envf x) h=.ok (.str (f x)) (h++t)):EvL ct c (.comp p (.seq a) nb fr .yes e) env h (l.map f):=by
 obtain⟨t,e⟩:=a6v rp f envf ha hs hl hx;exact⟨(h++t).length,t++[.lst ((l.map f).map .str)],by rw[e,aA],by rw[←aA];exact b6,.inl (by simp)⟩
theorem b1Z{b:E}{xs:List Str}{i:Nat}(e:env[i]? =some (~~~n))(hn:h[n]? =some (.lst (xs.map .str)))(B:EvL ct c b env h ys)(hl:xs.length+ys.length<=1000):EvL ct c (.bin .add (.v i) b) env h (xs++ys):=by
 obtain⟨m,u,b1,b2,_⟩:=B;refine⟨(h++u).length,u++[.lst (xs.map .str++ys.map .str)],?_,by rw[←aA,b6,al],.inl (by simp)⟩
 simp_arith[e,b1,op2,a5x (b5 (g:=u) hn) b2 (by rw[aa,aa];omega)]
 simp
theorem TS.pf{T:D}{xs:List Str}(S:TS T h0 env h xs):Pf h0 h:=by
 obtain⟨n,e1,e3,e4,e5,e6,e7,e8,e9,rfl,p,_⟩:=S;exact p
theorem a2A{T:D}{Tl:List D}{xs:List Str}{i s:Nat}(S:TS T h0 env h xs)(hT:T=.tup Tl)(hi:Tl[i]? = ~~~s):ev ct c (.ix (.v 0) (.k (.int (i:Int)))) env h=.ok (.ref s) h:=by
 obtain⟨n,e1,e3,e4,e5,e6,e7,e8,e9,rfl,_⟩:=S;subst hT;simp_arith[ix_tup (h:=h) hi]
theorem a4r{T:D}{xs:List Str}{C:E}(S:TS T h0 env h xs)(hC:EvL ct c C env h ys)(hl:xs.length+ys.length<=1000):∃env' h',ex ct c (.set 2 (.bin .add (.v 2) C)) env h=.ok (.nx env') h'/\TS T h0 env' h' (xs++ys):=by
 obtain⟨n,e1,e3,e4,e5,e6,e7,e8,e9,rfl,p,l,g⟩:=S;obtain⟨m,u,c1,c2,_⟩:=hC;refine⟨[some T,e1,some (.ref (h++u).length),e3,e4,e5,e6,e7,e8,e9],h++u++[.lst (xs.map .str++ys.map .str)],?_,_,e1,e3,e4,e5,e6,e7,e8,e9,rfl,(p.app _).app _,by have:=p.len;rw[ao];omega,by rw[al];exact b6⟩
 simp_arith[c1,op2,a5x (b5 (g:=u) g) c2 (by rw[aa,aa];omega)]
theorem a9O{T:D}{xs:List Str}{a:E}{s:Nat}{body:Ss}{l:List α}(rp:α->D)(f:α->Str)(S:TS T h0 env h xs)(ha:ev ct c a env h=.ok (.ref s) h)(hs:h0[s]? =some (.lst (l.map rp)))
 (hb:∀x∈l,∀env h xs,TS T h0 env h xs->xs.length<=1000->∃env1 env' h',D8 p (rp x) env=some env1/\exs ct c body env1 h=.ok (.nx env') h'/\TS T h0 env' h' (xs++[f x])) (hl:xs.length+l.length<=1000):∃env' h',ex ct c (.for p (.seq a) body) env h=.ok (.nx env') h'/\TS T h0 env' h' (xs++l.map f):=by
 have S0:=S;obtain⟨n,e1,e3,e4,e5,e6,e7,e8,e9,rfl,pf,_⟩:=S
 obtain⟨env',h',q1,q2⟩:=B6 (g:=[(s,.lst (l.map rp))]) (p:=p) (body:=exs ct c body) (fun j env h=>TS T h0 env h (xs++(l.take j).map f)) (fun j env h S=>by
  obtain⟨n,e1,e3,e4,e5,e6,e7,e8,e9,rfl,pf,_⟩:=S;simp[gOk,pf.at hs]) (l.map rp) 0 _ h (fun j x env h hx hP=>by
  have hj:j<l.length:=by simpa using(ac.mp hx).1
  rw[aj,af hj] at hx
  obtain rfl:rp l[j]=x:=ax hx;rw[aB] at hP⊢;obtain⟨env1,env',h',b1,b2,b3⟩:=hb l[j] (bw hj) env h _ hP (by rw[ao,aa,aM];omega)
  refine⟨env1,env',h',b1,b2,?_⟩
  rw[List.take_add_one,af hj,al,←aA]
  exact b3) (by rw[List.take_zero,map_nil,bh];exact S0)
 refine⟨env',h',?_,?_⟩
 · rw[a7n,a5k,ha,b9];simp only[V6,pf.at hs];rw[b9];exact q1
 · rw[aa,aB,bn] at q2;exact q2
theorem a9P{T:D}{xs:List Str}{t:AH}(S:TS T h0 env h xs)(he:ev ct c e env h=.ok (.str z) (h++t))(hl:xs.length<=1000):∃h',ex ct c (.ex (.mt .append (.v 2) (.cons e .nil))) env h=.ok (.nx env) h'/\TS T h0 env h' (xs++[z]):=by
 obtain⟨n,e1,e3,e4,e5,e6,e7,e8,e9,rfl,p,l,g⟩:=S;refine⟨(h++t).set n (.lst (xs.map .str++[.str z])),?_,n,e1,e3,e4,e5,e6,e7,e8,e9,rfl,(p.app _).set l,l,by rw[x5 (b5 g),al];rfl⟩
 simp_arith[C7 g,he,K9 (b5 (g:=t) g) (by rw[aa];omega)]
theorem a8s(A:EvL ct c e env h ws)(r:Row ws):∃t,ev ct c (.mt .join (.s " ") (.cons e .nil)) env h=.ok (.str (ln ws)) (h++t):=a6p A (b5f (fun w hw=>(r.w w hw).l) (by have:=r.l;omega))
theorem a2T:(Str.ofString "shape ").length=6:=rfl
theorem a1i:(Str.ofString "mark ").length=5:=rfl
theorem Z2:(Str.ofString "point ").length=6:=rfl
theorem b6t:(Str.ofString "gap ").length=4:=rfl
theorem a4N:(Str.ofString "feature ").length=8:=rfl
theorem a2O{p:Int×Int}(hp:Y1 p):(ln (D2 p)).length<=42:=b1i (ws:=D2 p) (b:=20) (i9 (WOk.num hp.1) (i9 (WOk.num hp.2) Row.nil) · · |>.l)
variable{H:HL}(K:HLok H)
include K
theorem b4E{p:Str×Nat}(hp:p∈H.sh):ev ct c b4b [some (.str p.1),some (.int (p.2:Int))] h=.ok (.str (ln (J9 p))) h:=by
 have k:=K.sh.ok p hp;have l1:=a1B k.1;have l2:=a2s (i:=(p.2:Int)) (by have:=k.2;omega)
 unfold b4b;simp_arith[op2,o0 (h:=h) (x:="shape ") (y:=p.1) (by rw[a2T];omega),o0 (h:=h) (x:=("shape ":Str)++p.1) (y:=" ") (by rw[j9,a2T,E2];omega),a1y (i:=(p.2:Int)) (h:=h) (by have:=k.2;omega),o0 (h:=h) (x:=("shape ":Str)++p.1++(" ":Str)) (y:=num p.2) (by rw[j9,j9,a2T,E2];omega),b2P]
 rfl
theorem b9B{n:Str}(hn:n∈H.gp):ev ct c (.bin .add (.s "gap ") (.v 0)) [some (.str n)] h=.ok (.str (ln (a2a n))) h:=by
 have l1:=a1B (a5b K hn);simp_arith[op2,o0 (h:=h) (x:="gap ") (y:=n) (by rw[b6t];omega),b7Y]
 rfl
theorem b7i{p:Str×Bool}(hp:p∈H.fe):∃t,ev ct c b6P [some (.str p.1),some (.bl p.2)] h=.ok (.str (ln (Y2 p))) (h++t):=by
 have l1:=a1B (a5h K (ak.mpr ⟨p,hp,rfl⟩))
 have lo:(a6V p.2).length<=20:=by cases p.2<;>decide
 have ib:biD .int (h++[.lst [.str "off",.str "on"]]) [.bl p.2]=.ok (.int ((if p.2 then 1 else 0:Nat):Int)) (h++[.lst [.str "off",.str "on"]]):=by cases p.2<;>rfl
 have ix:ixD (h++[.lst [.str "off",.str "on"]]) (.ref h.length) (.int ((if p.2 then 1 else 0:Nat):Int))=.ok (.str (a6V p.2)) (h++[.lst [.str "off",.str "on"]]):=B9 b6 (by cases p.2<;>rfl)
 refine⟨[.lst [.str "off",.str "on"]],?_⟩
 unfold b6P;simp_arith[op2,o0 (h:=h) (x:="feature ") (y:=p.1) (by rw[a4N];omega),o0 (h:=h) (x:=("feature ":Str)++p.1) (y:=" ") (by rw[j9,a4N,E2];omega),o5,ib,ix,o0 (h:=h++[.lst [.str "off",.str "on"]]) (x:=("feature ":Str)++p.1++(" ":Str)) (y:=a6V p.2) (by rw[j9,j9,a4N,E2];omega),b5w]
 rfl
theorem b4H{x:Cs}(hx:x∈H.cs):∃t,ev ct c (.mt .join (.s " ") (.cons b6O .nil)) [some (.str x.n),some (.tup (x.fs.map .str))] h=.ok (.str (ln (N4 x))) (h++t):=by
 have r:=a1A K hx;have l:=r.l;have A:=X2 (O5 (ct:=ct) (c:=c) (es:=(.cons (.s "class") (.o (.v 0)))) (env:=[some (.str x.n),some (.tup (x.fs.map .str))]) (h:=h) (xs:=["class",x.n]) (by simp_arith[]) (by show 2<=1000;decide)) (fun t=>a1p (a:=.v 1) (xs:=x.fs) (by simp_arith[])) (by unfold N4 at l;simp only[length_cons,length_nil] at l⊢;omega)
 exact a8s (e:=b6O) A r
theorem b2v{T:D}{xs:List Str}{x:Lt}(hx:x∈H.ls)(S:TS T h0 env h xs)(hl:xs.length<=1000):∃env1 env' h',D8 (htP 1 7 8 9) (ltD x) env=some env1/\exs ct c b4c env1 h=.ok (.nx env') h'/\TS T h0 env' h' (xs++[ln (J1 x)]):=by
 have r:=a0I K hx;have l:=r.l;obtain⟨n,e1,e3,e4,e5,e6,e7,e8,e9,rfl,p,ln',g⟩:=S
 have S1:TS T h0 [some T,some (.str x.n),~~~n,e3,e4,e5,e6,some (.str x.j),some (.str x.w),some (.tup (x.fs.map .str))] h xs:=⟨n,_,_,_,_,_,_,_,_,rfl,p,ln',g⟩
 have A:=X2 (O5 (ct:=ct) (c:=c) (es:=(.cons (.s "letter") (.cons (.v 1) (.cons (.v 7) (.o (.v 8)))))) (env:=[some T,some (.str x.n),~~~n,e3,e4,e5,e6,some (.str x.j),some (.str x.w),some (.tup (x.fs.map .str))]) (h:=h) (xs:=["letter",x.n,x.j,x.w]) (by simp_arith[]) (by show 4<=1000;decide)) (fun t=>a1p (a:=.v 9) (xs:=x.fs) (by simp_arith[])) (by unfold J1 at l;simp only[length_cons,length_nil] at l⊢;omega)
 obtain⟨t,q⟩:=a8s (e:=b8Z) A r;obtain⟨h',q1,q2⟩:=a9P S1 q hl;refine⟨_,_,h',rfl,?_,q2⟩
 unfold b4c
 show exs ct c _ [some T,some (.str x.n),~~~n,e3,e4,e5,e6,some (.str x.j),some (.str x.w),some (.tup (x.fs.map .str))] h=_
 rw[seq q1,a5i]
variable(f213:F 213=some w6)
include f213
theorem b4F{k:Nat}{p:Pt}(hp:p∈H.pt):ev ct (b0 ct F (k+1)) b6Q [some (.str p.n),some (.str p.s),some (spD p.a)] h=.ok (.str (ln (T8 p))) h:=by
 obtain⟨k1,k2,k3⟩:=K.pto p hp;have l1:=a1B (V5 K k1);have l2:=(a7F K k2).l;have l3:=a2O k3;unfold b6Q;simp_arith[op2,a2N (ct:=ct) (k:=k) (h:=h) f213 k3,o0 (h:=h) (x:="point ") (y:=p.n) (by rw[Z2];omega),o0 (h:=h) (x:=("point ":Str)++p.n) (y:=" ") (by rw[j9,Z2,E2];omega),o0 (h:=h) (x:=("point ":Str)++p.n++(" ":Str)) (y:=p.s) (by rw[j9,j9,Z2,E2];omega),o0 (h:=h) (x:=("point ":Str)++p.n++(" ":Str)++p.s) (y:=" ") (by rw[j9,j9,j9,Z2,E2];omega),o0 (h:=h) (x:=("point ":Str)++p.n++(" ":Str)++p.s++(" ":Str)) (y:=ln (D2 p.a)) (by rw[j9,j9,j9,j9,Z2,E2];omega)]
 unfold D2;rw[b2Q];rfl
theorem b7x{k:Nat}{T:D}{xs:List Str}{x:Mk}(hx:x∈H.mr)(S:TS T h0 env h xs)(hl:xs.length<=1000):∃env1 env' h',D8 (htP 1 3 4 5) (mkD x) env=some env1/\exs ct (b0 ct F (k+1)) b4d env1 h=.ok (.nx env') h'/\TS T h0 env' h' (xs++[ln (P9 x)]):=by
 obtain⟨k1,k2,k3⟩:=K.mko x hx;have l1:=a1B (V5 K (a4O K hx));have l2:=(a7F K k1).l;have l3:=a2O k2;have l4:=a2O k3;obtain⟨n,e1,e3,e4,e5,e6,e7,e8,e9,rfl,p,ln',g⟩:=S
 have S1:TS T h0 [some T,some (.str x.n),~~~n,some (.str x.s),some (spD x.a),some (spD x.b),some (.str ((ln (D2 x.a)++(" ":Str))++ln (D2 x.b))),e7,e8,e9] h xs:=⟨n,_,_,_,_,_,_,_,_,rfl,p,ln',g⟩
 have q:ev ct (b0 ct F (k+1)) (.bin .add (.bin .add (.bin .add (.bin .add (.bin .add (.s "mark ") (.v 1)) (.s " ")) (.v 3)) (.s " ")) (.v 6)) [some T,some (.str x.n),~~~n,some (.str x.s),some (spD x.a),some (spD x.b),some (.str ((ln (D2 x.a)++(" ":Str))++ln (D2 x.b))),e7,e8,e9] h=.ok (.str (ln (P9 x))) (h++[]):=by
  rw[bh];simp_arith[op2,o0 (h:=h) (x:="mark ") (y:=x.n) (by rw[a1i];omega),o0 (h:=h) (x:=("mark ":Str)++x.n) (y:=" ") (by rw[j9,a1i,E2];omega),o0 (h:=h) (x:=("mark ":Str)++x.n++(" ":Str)) (y:=x.s) (by rw[j9,j9,a1i,E2];omega),o0 (h:=h) (x:=("mark ":Str)++x.n++(" ":Str)++x.s) (y:=" ") (by rw[j9,j9,j9,a1i,E2];omega),o0 (h:=h) (x:=("mark ":Str)++x.n++(" ":Str)++x.s++(" ":Str)) (y:=ln (D2 x.a)++(" ":Str)++ln (D2 x.b)) (by rw[j9,j9,j9,j9,j9,j9,a1i,E2];omega)]
  unfold D2;rw[b5v];rfl
 obtain⟨h',q1,q2⟩:=a9P S1 q hl;refine⟨_,_,h',rfl,?_,q2⟩
 unfold b4d
 show exs ct (b0 ct F (k+1)) _ [some T,some (.str x.n),~~~n,some (.str x.s),some (spD x.a),some (spD x.b),e6,e7,e8,e9] h=_
 rw[seq (env':=[some T,some (.str x.n),~~~n,some (.str x.s),some (spD x.a),some (spD x.b),some (.str ((ln (D2 x.a)++(" ":Str))++ln (D2 x.b))),e7,e8,e9]) (h':=h) (by simp_arith[op2,a2N (ct:=ct) (k:=k) (h:=h) f213 k2,a2N (ct:=ct) (k:=k) (h:=h) f213 k3,o0 (h:=h) (x:=ln (D2 x.a)) (y:=" ") (by rw[E2];omega),o0 (h:=h) (x:=ln (D2 x.a)++(" ":Str)) (y:=ln (D2 x.b)) (by rw[j9,E2];omega)]),seq q1,a5i]
theorem b1C{k:Nat}{a c d e i:Nat}(f215:F 215=some C2)(A:HAt H h a b c d e f i j):b0 ct F (k+2) 215 [.tup [.ref a,.ref b,.ref c,.ref d,.ref e,.ref f,.ref i,.ref j]] h=.ok (.str (M5 H)) h:=by
 rw[i6 f215 rfl];simp only[C2];generalize hT:D.tup [.ref a,.ref b,.ref c,.ref d,.ref e,.ref f,.ref i,.ref j]=T
 show gcR 1 h (Q4 (exs ct (b0 ct F (k+1)) _ [some T,none,none,none,none,none,none,none,none,none] h))=_
 have rl:=(Q3 K).1
 have ll:H.sh.length+H.mr.length+H.pt.length+H.ls.length+H.gp.length+H.cs.length+H.fe.length<=300:=by
  unfold G3 at rl;simp only[ao,aa] at rl;exact rl
 obtain⟨t0,c0⟩:=a6v (ct:=ct) (c:=b0 ct F (k+1)) (p:=(.tp (.cons (.nm 0) (.cons (.nm 1) .nil)))) (a:=(.ix (.v 0) (.i 0))) (e:=b4b) (nb:=2) (fr:=[]) (env:=[some T,none,none,none,none,none,none,none,none,none]) (h:=h) (l:=H.sh) (s:=a) (fun p=>.tup [.str p.1,.int (p.2:Int)]) (fun p=>ln (J9 p)) (fun p=>[some (.str p.1),some (.int (p.2:Int))]) (by rw[←hT];simp_arith[a0x]) A.sh (by omega) (fun x hx=>⟨rfl,fun h=>⟨[],by rw[bh];exact b4E K hx⟩⟩)
 have S0:TS T h [some T,none,some (.ref (h++t0).length),none,none,none,none,none,none,none] (h++t0++[.lst ((H.sh.map fun p=>ln (J9 p)).map .str)]) (H.sh.map fun p=>ln (J9 p)):=⟨_,_,_,_,_,_,_,_,_,rfl,((Pf.refl h).app _).app _,by simp,b6⟩
 rw[seq (env':=[some T,none,some (.ref (h++t0).length),none,none,none,none,none,none,none]) (by unfold b9f;rw[a0S,c0,b9];rfl)]
 obtain⟨env1,h1,q1,S1⟩:=a9O (l:=H.mr) (a:=(.ix (.v 0) (.i 1))) (p:=htP 1 3 4 5) (body:=b4d) (c:=b0 ct F (k+1)) mkD (fun m=>ln (P9 m)) S0 (a2A (i:=1) S0 hT.symm rfl) A.mr (fun x hx env h xs S hl=>b7x K f213 hx S hl) (by rw[aa];omega)
 rw[seq q1];obtain⟨env2,h2,q2,S2⟩:=a4r (ct:=ct) (c:=b0 ct F (k+1)) (C:=b9e) S1 (a0c (a:=(.ix (.v 0) (.i 2))) (l:=H.pt) ptD (fun p=>ln (T8 p)) (fun p=>[some (.str p.n),some (.str p.s),some (spD p.a)]) (a2A (i:=2) S1 hT.symm rfl) (S1.pf.at A.pt) (by omega) (fun x hx=>⟨rfl,fun h=>⟨[],by rw[bh];exact b4F K f213 hx⟩⟩)) (by simp only[ao,aa];omega)
 rw[seq q2];obtain⟨env3,h3,q3,S3⟩:=a9O (l:=H.ls) (a:=(.ix (.v 0) (.i 3))) (p:=htP 1 7 8 9) (body:=b4c) (c:=b0 ct F (k+1)) ltD (fun m=>ln (J1 m)) S2 (a2A (i:=3) S2 hT.symm rfl) A.ls (fun x hx env h xs S hl=>b2v K hx S hl) (by simp only[ao,aa];omega)
 rw[seq q3];obtain⟨env4,h4,q4,S4⟩:=a4r (ct:=ct) (c:=b0 ct F (k+1)) (C:=b9d) S3 (a0c (a:=(.ix (.v 0) (.i 4))) (l:=H.gp) .str (fun p=>ln (a2a p)) (fun p=>[some (.str p)]) (a2A (i:=4) S3 hT.symm rfl) (S3.pf.at A.gp) (by omega) (fun x hx=>⟨rfl,fun h=>⟨[],by rw[bh];exact b9B K hx⟩⟩)) (by simp only[ao,aa];omega)
 rw[seq q4];obtain⟨env5,h5,q5,S5⟩:=a4r (ct:=ct) (c:=b0 ct F (k+1)) (C:=b9c) S4 (a0c (a:=(.ix (.v 0) (.i 5))) (l:=H.cs) csD (fun p=>ln (N4 p)) (fun p=>[some (.str p.n),some (.tup (p.fs.map .str))]) (a2A (i:=5) S4 hT.symm rfl) (S4.pf.at A.cs) (by omega) (fun x hx=>⟨rfl,fun h=>b4H K hx⟩)) (by simp only[ao,aa];omega)
 rw[seq q5];obtain⟨env6,h6,q6,S6⟩:=a4r (ct:=ct) (c:=b0 ct F (k+1)) (C:=b9b) S5 (a0c (a:=(.ix (.v 0) (.i 6))) (l:=H.fe) feD (fun p=>ln (Y2 p)) (fun p=>[some (.str p.1),some (.bl p.2)]) (a2A (i:=6) S5 hT.symm rfl) (S5.pf.at A.fe) (by omega) (fun x hx=>⟨rfl,fun h=>b7i K hx⟩)) (by simp only[ao,aa];omega)
 rw[seq q6];have B:=a0c (ct:=ct) (c:=b0 ct F (k+1)) (p:=.nm 0) (nb:=1) (fr:=[]) (e:=(.call 214 (.o (.v 0)))) (a:=(.ix (.v 0) (.i 7))) (l:=([]:List Str)) .str id (fun _=>[]) (a2A (i:=7) S6 hT.symm rfl) (S6.pf.at A.ru) (by decide) (fun x hx=>nomatch hx)
 obtain⟨n,e1,e3,e4,e5,e6,e7,e8,e9,rfl,p,l,g⟩:=S6
 have C:EvL ct (b0 ct F (k+1)) (.bin .add (.v 2) b9a) [some T,e1,~~~n,e3,e4,e5,e6,e7,e8,e9] h6 ((G3 H).map ln):=by
  have e:(G3 H).map ln=(((((((H.sh.map fun p=>ln (J9 p))++H.mr.map fun p=>ln (P9 p))++H.pt.map fun p=>ln (T8 p))++H.ls.map fun p=>ln (J1 p))++H.gp.map fun p=>ln (a2a p))++H.cs.map fun p=>ln (N4 p))++H.fe.map fun p=>ln (Y2 p)):=by
   unfold G3;simp only[al,aH];rfl
  have z:=b1Z (i:=2) rfl g B (by simp only[ao,aa,length_nil];omega)
  rw[map_nil,bh] at z;rw[e];exact z
 obtain⟨t,z⟩:=a6p C (a9J K);rw[J0,a5j,z,b9,b9]
 show gcR 1 h (.ok (.str (M5 H)) (h6++t))=_
 exact b4l (p.app t) rfl
end
theorem b5a{s:Str}(h:U3 s):inD (.str s) [.str "above",.str "below"]=true:=by rcases h with rfl|rfl<;>decide
theorem a0T{a b c:Bool}(ha:a=false)(hb:b=true)(hc:c=false):due a b c=none:=by subst ha hb hc;rfl
theorem nin[DecidableEq α]{a:α}{l:List α}(h:a∉l):decide (a∈l)=false:=bB h
theorem a0N(h:g9 z=true):z.length<=100000:=by have:=a1B h;omega
theorem a9s(xs:List Str):(xs.map D.str).all B7=true:=by
 rw[all_map];exact bu.mpr fun _ _=>rfl
theorem a8i(x:Str):∀xs:List Str,inD (.str x) (xs.map .str)=decide (x∈xs)
 |[]=>rfl
 |y::r=>by
  have ih:=a8i x r;unfold inD at ih⊢;rw[map_cons,any_cons,ih]
  show(decide (y=x)||decide (x∈r))=_
  by_cases e:y=x
  · subst e;simp
  · rw[bB e,Bool.false_or];exact decide_eq_decide.mpr ⟨fun z=>.tail _ z,fun z=>(aE.mp z).resolve_left fun q=>e q.symm⟩
variable{r:R D}
section
variable{ct:CT}{F:Nat->Option Fn}(W:PF F)
include W
theorem b2z{k:Nat}{d9:List D}(hw:h[w]? =some (.lst (.str x::d9)))(hr:b0 ct F k f [.ref n,.ref w] h=r)(hx:(x,f)∈[(("mark":Str),19),("gap",23)]):b0 ct F (k+1) 13 [.ref n,.ref w] h=r:=by
 rw[←hr,i6 W.f13 rfl];simp only[D0];rw[gc0];simp only[aE,not_mem_nil,or_false,Prod.mk.injEq] at hx
 rcases hx with⟨rfl,rfl⟩|⟨rfl,rfl⟩
 · simp_arith[B0 0 0 rfl hw rfl,op2,K0,eqS,decide_true,decide_false];generalize b0 ct F k 19 [.ref n,.ref w] h=r
   cases r<;>simp_arith[]
 · simp_arith[B0 0 0 rfl hw rfl,op2,K0,eqS,decide_true,decide_false];generalize b0 ct F k 23 [.ref n,.ref w] h=r
   cases r<;>simp_arith[]
theorem HallAt.s5{H:HD}(A:HallAt h n H)(l:List Str):HallAt (h.set (n+5) (.lst (l.map .str))) n {H with gaps:=l}:=
 ⟨b7 (by omega) A.o,b7 (by omega) A.c1,b7 (by omega) A.c2,b7 (by omega) A.c3,b7 (by omega) A.c4,x5 A.c5,b7 (by omega) A.c6,b7 (by omega) A.c7,b7 (by omega) A.c8⟩
variable{d:Nat}{H:HD}
theorem b1F{p:Str×Nat}(hn:g9 p.1=true)(hw:p.2<99999)(h1:p.1∉H.shapes.map (·.1))(hl:H.shapes.length<60):a0h ct F (d+9) H (J9 p) none {H with shapes:=H.shapes++[(p.1,.int (p.2:Int))]}:=by
 have:=a9T (ct:=ct) (d:=d) (H:=H) W hn (a2R (n:=p.2) (by omega))
 rw[a0T (nin h1) rfl (bB (by omega))] at this
 exact this
theorem b4j{p:Str×Bool}(hn:g9 p.1=true)(h1:p.1∉H.features.map (·.1))(hl:H.features.length<10):a0h ct F (d+9) H (Y2 p) none {H with features:=H.features++[(p.1,.bl p.2)]}:=by
 have:=a6J (ct:=ct) (d:=d) (H:=H) (b:=a6V p.2) W hn (by cases p.2;exact .inr rfl;exact .inl rfl)
 rw[a0T (nin h1) rfl (bB (by omega)),show decide (a6V p.2="on")=p.2 by cases p.2<;>decide+kernel] at this
 exact this
theorem a9r{l:Lt}(o:LtOk sh l)(hs:∀f∈l.fs,g9 f=true/\f∈H.shapes.map (·.1))(h1:l.n∉H.letters.map (·.1))(hl:H.letters.length<24):a0h ct F (d+9) H (J1 l) none {H with letters:=H.letters++[(l.n,.tup [.str l.j,.str l.w,.tup (l.fs.map .str)])]}:=by
 intro h n w A hw
 have:=a2B (ct:=ct) (k:=d+3) (d9:=l.fs) W A hw o.nm (a0N o.nm) o.jn o.wy (bu.mpr fun f hf=>(hs f hf).1) (fun y hy=>a0N (hs y hy).1) (by have:=o.few;omega)
 rw[a0T (nin h1) (bu.mpr fun f hf=>bm (hs f hf).2) (bB (by omega))] at this
 rw[a8K W hw,this];exact⟨_,rfl,(Fr.app n h _).trans (Fr.set (by omega) (by omega)),(A.app _).s4 _⟩
theorem b1H{c:Cs}(o:CsOk sh c)(hs:∀f∈c.fs,g9 f=true/\f∈H.shapes.map (·.1))(h1:c.n∉H.classes.map (·.1))(hl:H.classes.length<20):a0h ct F (d+9) H (N4 c) none {H with classes:=H.classes++[(c.n,.tup (c.fs.map .str))]}:=by
 intro h n w A hw
 have:=a3p (ct:=ct) (k:=d+3) (d9:=c.fs) W A hw o.nm (a0N o.nm) (bu.mpr fun f hf=>(hs f hf).1) (fun y hy=>a0N (hs y hy).1) o.few.1 o.few.2
 rw[a0T (nin h1) (bu.mpr fun f hf=>bm (hs f hf).2) (bB (by omega))] at this
 rw[a9S W hw,this];exact⟨_,rfl,(Fr.app n h _).trans (Fr.set (by omega) (by omega)),(A.app _).s6 _⟩
theorem b1G{p:Pt}(hn:g9 p.n=true)(hs:U3 p.s)(ha:Y1 p.a)(h1:ptK p∉H.points.map (·.1))(h2:p.n∈H.shapes.map (·.1))(hl:H.points.length<=1000):a0h ct F (d+9) H (T8 p) none {H with points:=H.points++[(ptK p,spD p.a)]}:=by
 intro h n w A hw
 have:=a3o (ct:=ct) (k:=d+2) W A hw hn (a0N hn) (b5a hs) (G9 ha.1) (G9 ha.2) (by omega)
 have h1:(p.n,p.s)∉H.points.map (·.1):=h1
 rw[a0T (bB h1) (bm h2) rfl] at this;rw[a9R W hw];exact this
theorem b6T{g:Str}(hn:g9 g=true)(h1:g∉H.gaps)(h2:g∈H.letters.map (·.1))(hl:H.gaps.length<=1000):a0h ct F (d+9) H (a2a g) none {H with gaps:=H.gaps++[g]}:=by
 intro h n w A hw
 have hw:h[w]? =some (.lst [.str "gap",.str g]):=hw
 have hg:V9 false h (.str g) (.ref (n+5))=.ok (.bl false) h:=by
  simp only[V9,A.c5];rw[ay (by rw[a9s];rfl),a8i,nin h1]
  rfl
 have e:b0 ct F (d+8) 23 [.ref n,.ref w] h=.ok .non (h.set (n+5) (.lst ((H.gaps++[g]).map .str))):=by
  rw[i6 W.f23 rfl];simp only[X0];rw[gc0];simp_arith[A9 hw,op2,a1g,eqS,B0 1 1 rfl hw rfl,L4 W (a0N hn),hn,A.fld5,A.fld4,hg,a0B A.c4,bm h2,C9 W,a0T rfl rfl rfl,Y6,Int.cast_ofNat_Int,decide_true,Bool.not_true,C7 A.c5,K9 (d:=.str g) A.c5 (by rw[aa];omega)]
  rw[al];rfl
 rw[b2z W hw e (.tail _ (.head _))];exact⟨_,rfl,Fr.set (by omega) (by omega),HallAt.s5 W A _⟩
theorem b4i{m:Mk}(hn:g9 m.n=true)(hs:U3 m.s)(ha:Y1 m.a)(hb:Y1 m.b)(h1:m.n∉H.marks.map (·.1))(h2:m.n∈H.shapes.map (·.1))(hl:H.marks.length<=1000):a0h ct F (d+9) H (P9 m) none {H with marks:=H.marks++[(m.n,.tup [.str m.s,spD m.a,spD m.b])]}:=by
 intro h n w A hw
 have hf:b0 ct F (d+7) 18 [.ref w,.int 4] h=.ok (.bl true) h:=a1c (k:=d+2) (ws:=[num m.a.1,num m.a.2,num m.b.1,num m.b.2]) W hw hn (a0N hn) (b5a hs) rfl (by simp[a5L,G9 ha.1,G9 ha.2,G9 hb.1,G9 hb.2]) (fun y hy=>by
  have:=(i9 (WOk.num ha.1) (i9 (WOk.num ha.2) (i9 (WOk.num hb.1) (i9 (WOk.num hb.2) Row.nil))) y hy).l
  omega) (by simp)
 have e35:V3 ((P9 m).map .str) (some 3) (some 5)=[.str (num m.a.1),.str (num m.a.2)]:=a1G 3 5 ((P9 m).map .str) (by decide) (Nat.le_of_ble_eq_true rfl)
 have e57:V3 ((P9 m).map .str) (some 5) (some 7)=[.str (num m.b.1),.str (num m.b.2)]:=a1G 5 7 ((P9 m).map .str) (by decide) (Nat.le_of_ble_eq_true rfl)
 have A2:=(A.app [.lst [.str (num m.a.1),.str (num m.a.2)]]).app [.lst [.str (num m.b.1),.str (num m.b.2)]];have hw1:=b5 (g:=[.lst [.str (num m.a.1),.str (num m.a.2)]]) hw
 have e:b0 ct F (d+8) 19 [.ref n,.ref w] h=.ok .non ((h++[Cell.lst [D.str (num m.a.1),D.str (num m.a.2)]]++[Cell.lst [D.str (num m.b.1),D.str (num m.b.2)]]).set (n+2) (Cell.dict (kd (H.marks++[(m.n,D.tup [.str m.s,spD m.a,spD m.b])])))):=by
  rw[i6 W.f19 rfl];simp only[T1];rw[gc0];simp_arith[hf,Bool.not_true,B0 1 1 rfl hw rfl,B0 2 2 rfl hw rfl,op2,A.fld2,a0B A.c2,A.fld1,a0B A.c1,C9 W,a0T (nin h1) (bm h2) rfl,Y6,decide_true,V4 hw,e35,a4G W (b6 (h:=h)) (G9 ha.1) (G9 ha.2),V4 hw1,e57,a4G W (b6 (h:=h++[Cell.lst [.str (num m.a.1),.str (num m.a.2)]])) (G9 hb.1) (G9 hb.2),A2.fld2,Y9 A2.c2 h1 (show _<16777216 by omega)]
  rfl
 rw[b2z W hw e (.head _)];exact⟨_,rfl,((Fr.app n h _).trans (Fr.app n _ _)).trans (Fr.set (by omega) (by omega)),A2.s2 _⟩
end
theorem J4{ct:CT}{F:Nat->Option Fn}{d:Nat}{α:Type}{full:List α}{d9:List Str}{H':HD}(wf:α->List Str)(U:List α->HD)(hR:∀x∈full,Row (wf x))(hst:∀pre x post,full=pre++x::post->a0h ct F d (U pre) (wf x) none (U (pre++[x])))(hT:Reads ct F d (U full) d9 H'):∀(l pre:List α),full=pre++l->Reads ct F d (U pre) (l.map (fun x=>ln (wf x))++d9) H'
 |[],pre,e=>by
  rw[bh] at e;subst e;exact hT
 |x::l,pre,e=>by
  have r:=hR x (by rw[e];exact mem_append_right _ (.head _))
  have b:=b0j r
  have:=a7L r
  refine .take (H1:=U (pre++[x])) (show(ln (wf x)).length<=100000 by omega) (by rw[b];exact r.n) (by rw[b];exact hst pre x l e) (J4 wf U hR hst hT l (pre++[x]) (by rw[e];simp))
theorem M4{f:α->β}{full pre post:List α}{x:α}(h:(full.map f).Nodup)(e:full=pre++x::post):f x∉pre.map f:=fun m=>by
 rw[e,al,map_cons] at h;exact(nodup_append.mp h).2.2 _ m _ (.head _) rfl
theorem L3{full pre post:List α}{x:α}(e:full=pre++x::post):pre.length<full.length/\x∈full:=by
 rw[e];exact⟨by simp only[ao,length_cons];omega,mem_append_right _ (.head _)⟩
noncomputable def hS(H:HL):List (Str×D):=H.sh.map fun p=>(p.1,.int (p.2:Int))
def hM(l:List Mk):List (Str×D):=l.map fun m=>(m.n,.tup [.str m.s,spD m.a,spD m.b])
def hP(l:List Pt):List ((Str×Str)×D):=l.map fun p=>(ptK p,spD p.a)
noncomputable def hL(l:List Lt):List (Str×D):=l.map fun l=>(l.n,.tup [.str l.j,.str l.w,.tup (l.fs.map .str)])
noncomputable def hC(l:List Cs):List (Str×D):=l.map fun c=>(c.n,.tup (c.fs.map .str))
noncomputable def hF(l:List (Str×Bool)):List (Str×D):=l.map fun p=>(p.1,.bl p.2)
def a0a(H:HL):HD:=⟨hS H,hM H.mr,hP H.pt,hL H.ls,H.gp,hC H.cs,hF H.fe,[]⟩
theorem a1D(k:α->Str)(v:α->β)(l:List α):(l.map fun x=>(k x,v x)).map (·.1)=l.map k:=by rw[aH];rfl
theorem snoc(f:α->β)(l:List α)(x:α):(l++[x]).map f=l.map f++[f x]:=by rw[al];rfl
theorem a8l{H:HL}(K:HLok H){f:Str}(h:f∈H.sh.map (·.1)):g9 f=true/\f∈(hS H).map (·.1):=⟨V5 K h,by unfold hS;rw[a1D];exact h⟩
variable{ct:CT}
theorem a8U{F:Nat->Option Fn}(W:PF F){d:Nat}{H:HL}(K:HLok H):Reads ct F (d+9) {} ((G3 H).map ln) (a0a H):=by
 have e:(G3 H).map ln=H.sh.map (fun p=>ln (J9 p))++(H.mr.map (fun p=>ln (P9 p))++(H.pt.map (fun p=>ln (T8 p))++(H.ls.map (fun p=>ln (J1 p))++(H.gp.map (fun p=>ln (a2a p))++(H.cs.map (fun p=>ln (N4 p))++(H.fe.map (fun p=>ln (Y2 p))++[])))))):=by
  unfold G3;simp only[al,aH,aA,bh];rfl
 rw[e];refine J4 J9 (fun l=>{shapes:=l.map fun p=>(p.1,.int (p.2:Int))}) (fun x hx=>a3I K hx) (fun pre x post q=>?_) ?_ H.sh [] rfl
 · obtain⟨q1,q2⟩:=L3 q;have k:=K.sh.ok x q2
   have:=K.sh.hi
   have g:=b1F (ct:=ct) (d:=d) (H:={shapes:=pre.map fun p=>(p.1,.int (p.2:Int))}) (p:=x) W k.1 k.2 (by rw[a1D];exact M4 (f:=fun p=>p.1) K.sh.nd q) (by rw[aa];omega)
   simp only[snoc];exact g
 refine J4 P9 (fun l=>{shapes:=hS H,marks:=hM l}) (fun x hx=>a5R K hx) (fun pre x post q=>?_) ?_ H.mr [] rfl
 · obtain⟨q1,q2⟩:=L3 q;obtain⟨k1,k2,k3⟩:=K.mko x q2;have hn:=a8l K (a4O K q2);have b:=a7B K K.mr;rw[aa] at b
   have:=K.sh.hi
   have g:=b4i (ct:=ct) (d:=d) (H:={shapes:=hS H,marks:=hM pre}) (m:=x) W hn.1 k1 k2 k3 (by unfold hM;rw[a1D];exact M4 (f:=fun m:Mk=>m.n) (K.mr.nodup K.sh.nd) q) hn.2 (by unfold hM;rw[aa];omega)
   unfold hM at g⊢;rw[snoc];exact g
 refine J4 T8 (fun l=>{shapes:=hS H,marks:=hM H.mr,points:=hP l}) (fun x hx=>a3J K hx) (fun pre x post q=>?_) ?_ H.pt [] rfl
 · obtain⟨q1,q2⟩:=L3 q;obtain⟨k1,k2,k3⟩:=K.pto x q2;have hn:=a8l K k1
   have:=K.ptl
   have g:=b1G (ct:=ct) (d:=d) (H:={shapes:=hS H,marks:=hM H.mr,points:=hP pre}) (p:=x) W hn.1 k2 k3 (by unfold hP;rw[aH];exact M4 (f:=ptK) K.pt q) hn.2 (by unfold hP;rw[aa];omega)
   unfold hP at g⊢;rw[snoc];exact g
 refine J4 J1 (fun l=>{shapes:=hS H,marks:=hM H.mr,points:=hP H.pt,letters:=hL l}) (fun x hx=>a0I K hx) (fun pre x post q=>?_) ?_ H.ls [] rfl
 · obtain⟨q1,q2⟩:=L3 q;have k:=K.lso x q2
   have:=K.ls
   have g:=a9r (ct:=ct) (d:=d) (H:={shapes:=hS H,marks:=hM H.mr,points:=hP H.pt,letters:=hL pre}) (l:=x) W k (fun f hf=>a8l K (k.fs f hf)) (by unfold hL;rw[a1D];exact M4 (f:=fun m:Lt=>m.n) K.lsn q) (by unfold hL;rw[aa];omega)
   unfold hL at g⊢;rw[snoc];exact g
 refine J4 a2a (fun l=>{shapes:=hS H,marks:=hM H.mr,points:=hP H.pt,letters:=hL H.ls,gaps:=l}) (fun x hx=>a7M K hx) (fun pre x post q=>?_) ?_ H.gp [] rfl
 · obtain⟨q1,q2⟩:=L3 q
   have:=K.gp.length_le
   rw[aa] at this
   have:=K.ls
   have nd:=M4 (f:=id) (by rw[map_id];exact K.gp.nodup K.lsn) q
   rw[map_id] at nd;exact b6T (ct:=ct) (d:=d) (H:={shapes:=hS H,marks:=hM H.mr,points:=hP H.pt,letters:=hL H.ls,gaps:=pre}) (g:=x) W (a5b K q2) nd (by unfold hL;rw[a1D];exact K.gp.subset q2) (show pre.length<=1000 by omega)
 refine J4 N4 (fun l=>{shapes:=hS H,marks:=hM H.mr,points:=hP H.pt,letters:=hL H.ls,gaps:=H.gp,classes:=hC l}) (fun x hx=>a1A K hx) (fun pre x post q=>?_) ?_ H.cs [] rfl
 · obtain⟨q1,q2⟩:=L3 q;have k:=K.cso x q2
   have:=K.cs
   have g:=b1H (ct:=ct) (d:=d) (H:={shapes:=hS H,marks:=hM H.mr,points:=hP H.pt,letters:=hL H.ls,gaps:=H.gp,classes:=hC pre}) (c:=x) W k (fun f hf=>a8l K (k.fs f hf)) (by unfold hC;rw[a1D];exact M4 (f:=fun m:Cs=>m.n) K.csn q) (by unfold hC;rw[aa];omega)
   unfold hC at g⊢;rw[snoc];exact g
 refine J4 Y2 (fun l=>{shapes:=hS H,marks:=hM H.mr,points:=hP H.pt,letters:=hL H.ls,gaps:=H.gp,classes:=hC H.cs,features:=hF l}) (fun x hx=>a5S K hx) (fun pre x post q=>?_) (.nil _) H.fe [] rfl
 · obtain⟨q1,q2⟩:=L3 q
   have:=K.fe
   have g:=b4j (ct:=ct) (d:=d) (H:={shapes:=hS H,marks:=hM H.mr,points:=hP H.pt,letters:=hL H.ls,gaps:=H.gp,classes:=hC H.cs,features:=hF pre}) (p:=x) W (a5h K (ak.mpr ⟨x,q2,rfl⟩)) (by unfold hF;rw[a1D];exact M4 (f:=fun p=>p.1) K.fen.nd q) (by unfold hF;rw[aa];omega)
   unfold hF at g⊢;rw[snoc];exact g
structure Ce where
 n:Str
 lo:Nat
 k:Nat
def ceD(c:Ce):D:=.tup [.str c.n,.tup (rngD (c.lo:Int) c.k)]
noncomputable def M1(cs:List Ce):Nat:=(cs.map (·.k)).sum
theorem a0k(cs:List Ce)(c:Ce):M1 (cs++[c])=M1 cs+c.k:=by
 unfold M1;rw[al,sum_append];simp
structure Ch(cs:List Ce):Prop where
 lo:∀t c,cs[t]? =some c->c.lo=M1 (cs.take t)/\c.k<=4
 fst:∀c,cs[0]? =some c->1<=c.k
theorem Ch.nil:Ch []:=⟨(fun t c h=>by cases h),(fun c h=>by cases h)⟩
variable{cs:List Ce}
theorem Ch.snoc{c:Ce}(C:Ch cs)(h1:c.lo=M1 cs)(h2:c.k<=4)(h3:M1 cs=0->1<=c.k):Ch (cs++[c]):=by
 refine⟨fun t d h=>?_,fun d h=>?_⟩
 · by_cases lt:t<cs.length
   · rw[av lt] at h
     rw[List.take_append_of_le_length (Nat.le_of_lt lt)];exact C.lo t d h
   · rw[aq (by omega)] at h
     obtain⟨i,rfl⟩:∃i,t=cs.length+i:=⟨t-cs.length,by omega⟩
     rw[Nat.add_sub_cancel_left] at h
     cases i with
     |succ i=>cases h
     |zero=>
      obtain rfl:=ax h;rw[Nat.add_zero,List.take_append_of_le_length (ai _),bn];exact⟨h1,h2⟩
 · cases cs with
   |nil=>
    obtain rfl:=ax h;exact h3 rfl
   |cons a r=>exact C.fst d h
theorem b1N(lo:Int)(k:Nat):D.flats (rngD lo k)=true:=by
 unfold rngD
 exact D9 fun d hd=>by
  obtain⟨i,_,rfl⟩:=ak.mp hd;rfl
theorem b1S(cs:List Ce):D.flats (cs.map ceD)=true:=D9 fun d hd=>by
 obtain⟨c,_,rfl⟩:=ak.mp hd
 show(true&&(D.flats (rngD (c.lo:Int) c.k)&&true))=true
 rw[b1N];rfl
theorem b2l(ns:List Int)(lo hi:Option Int):∃zs:List Int,V3 (ns.map .int) lo hi=zs.map .int/\zs.length<=ns.length:=by
 refine⟨(ns.drop (HT.sIx (ns.map D.int).length 0 lo)).take (HT.sIx (ns.map D.int).length (ns.map D.int).length hi-HT.sIx (ns.map D.int).length 0 lo),?_,?_⟩
 · unfold V3;rw[List.map_take,List.map_drop]
 · rw[aM,bD];omega
noncomputable def z8:List D:=[.int 0,.int 1,.int 1,.int 1,.int 2,.int 2,.int 3,.int 4]
theorem b7U:∀i:Fin 8,∃w:Nat,w<=4/\z8[i.val]? =w⁻¹
 |⟨0,_⟩=>⟨0,by decide,rfl⟩
 |⟨1,_⟩=>⟨1,by decide,rfl⟩
 |⟨2,_⟩=>⟨1,by decide,rfl⟩
 |⟨3,_⟩=>⟨1,by decide,rfl⟩
 |⟨4,_⟩=>⟨2,by decide,rfl⟩
 |⟨5,_⟩=>⟨2,by decide,rfl⟩
 |⟨6,_⟩=>⟨3,by decide,rfl⟩
 |⟨7,_⟩=>⟨4,by decide,rfl⟩
section
variable{F:Nat->Option Fn}
theorem b4v{a b:E}:ev ct c (.trng a b) env h=(ev ct c a env h).bind fun x h1=>(ev ct c b env h1).bind fun y h2=>a5F h2 x y:=by(rw[ev];try rfl)
theorem b6w(hw:w<=4):∃v:Nat,(v<=4/\1<=v)/\biD .max h [.int 1,.int (w:Int)]=.ok (.int (v:Int)) h:=by
 by_cases e:(w:Int)>1
 · exact⟨w,⟨hw,by omega⟩,by simp only[biD,e,if_true]⟩
 · exact⟨1,by decide,by simp only[biD,e,if_false];rfl⟩
theorem b2n{k s:Nat}(f202:F 202=some l0)(hF:F 217=some D6)(hl:ns.length<=63)(hs:Shs sh)(hr:h[n]? =some (.rol (ns.map .int)))(hS:h[s]? =some (.lst (shD sh))):
 ∃cs:List Ce,((∀c∈cs,c.n∈sh.map (·.1))/\Ch cs)/\cs.length<=63/\b0 ct F (k+2) 217 [.ref n,.int 5,.ref s] h=.ok (.ref h.length) (h++[.lst (cs.map ceD)]):=by
 obtain⟨zs,z1,z2⟩:=b2l ns (some 5) (some 55)
 have l1:(h++[Cell.lst []]).length=h.length+1:=by simp
 have rl:rdL (h++[Cell.lst []]) n=some (ns.map .int):=by unfold rdL;rw[b5 hr]
 have sl:slD (h++[Cell.lst []]) (some 5) (some 55) (.ref n)=.ok (.ref (h.length+1)) (h++[Cell.lst []]++[.lst (zs.map .int)]):=by simp only[slD,rl,o5,z1,l1]
 rw[i6 hF rfl];simp only[D6]
 show∃cs:List Ce,_/\_/\gcR 2 h (Q4 (exs ct (b0 ct F (k+1)) _ [~~~n,some (.int 5),~~~s,none,none,none,none,none,none] h))=_
 rw[seq (env':=[~~~n,some (.int 5),~~~s,~~~h.length,none,none,none,none,none]) (h':=h++[Cell.lst []]) (by simp_arith[o5])]
 rw[seq (env':=[~~~n,some (.int 5),~~~s,~~~h.length,some (.int 0),none,none,none,none]) (h':=h++[Cell.lst []]) (by simp_arith[])]
 have gW:(h++[Cell.lst []]++[Cell.lst (zs.map .int)])[h.length]? =some (.lst []):=b5 b6
 have gZ:(h++[Cell.lst []]++[Cell.lst (zs.map .int)])[h.length+1]? =some (.lst (zs.map .int)):=by rw[←l1];exact b6
 have pf:Pf h (h++[Cell.lst []]++[Cell.lst (zs.map .int)]):=((Pf.refl h).app _).app _
 generalize hg:h++[Cell.lst []]++[Cell.lst (zs.map D.int)]=g at gW gZ pf sl
 obtain⟨env',g',e1,cs,m,e5,e6,e7,e8,rfl,q2,q3,q4,q5,q6,q7⟩:=B6 (g:=[(h.length+1,.lst (zs.map .int))]) (p:=.tp (.cons (.nm 5) (.cons (.nm 6) .nil))) (body:=exs ct (b0 ct F (k+1)) cB1) (fun j env hh=>∃cs:List Ce,∃m:Nat,∃e5 e6 e7 e8,env=[~~~n,some (.int 5),~~~s,~~~h.length,m⁻¹,e5,e6,e7,e8]/\Pf h hh/\hh[h.length]? =some (.lst (cs.map ceD))/\hh[h.length+1]? =some (.lst (zs.map .int))/\cs.length=j/\((∀c∈cs,c.n∈sh.map (·.1))/\Ch cs/\m=M1 cs)/\m<=4*j) (fun j env hh hP=>by
  obtain⟨_,_,_,_,_,_,_,_,_,h4,_⟩:=hP;simp[gOk,h4]) (x4 0 (zs.map .int)) 0 [~~~n,some (.int 5),~~~s,~~~h.length,some (.int 0),none,none,none,none] g (fun j x env hh hx hP=>by
  obtain⟨cs,m,e5,e6,e7,e8,rfl,p1,p2,p3,p4,⟨p5,p7,p8⟩,p6⟩:=hP;obtain⟨y,hy,rfl⟩:=X3 hx
  have hj:j<zs.length:=by simpa using(ac.mp hy).1
  rw[aj,af hj] at hy
  obtain rfl:D.int zs[j]=y:=ax hy;rw[aB] at p4 p6⊢
  have a4:((j:Nat):Int)+400=((j+400:Nat):Int):=by omega
  obtain⟨M,hM⟩:=C1 (ct:=ct) (k:=k) (c:=zs[j]) (j:=((j+400:Nat):Int)) (h:=hh) f202 (by omega)
  obtain⟨w,w1,w2⟩:=b7U ⟨M%8,Nat.mod_lt _ (by decide)⟩
  have m8:∀h,u0 h (.int (M:Int)) (.int 8)=.ok (.int ((M%8:Nat):Int)) h:=fun h=>G7 8 (by decide)
  have d8:∀h,D3 h (.int (M:Int)) (.int 8)=.ok (.int ((M/8:Nat):Int)) h:=fun h=>R7 8 (by decide) (by decide)
  have i8:ixD (hh++[.lst z8]) (.ref hh.length) (.int ((M%8:Nat):Int))=.ok (.int (w:Int)) (hh++[.lst z8]):=B9 b6 w2
  obtain⟨v,v1,v2⟩:=b6w (h:=hh++[.lst z8]) w1;have b2:=b5 (g:=[.lst z8]) p2;have b3:=b5 (g:=[.lst z8]) p3;have P1:=p1.app [.lst z8];have hs1:=P1.at hS
  obtain⟨u,⟨us,u1⟩,ue⟩:∃u:Nat,(u<=4/\(m=0->1<=u))/\∀T,exs ct (b0 ct F (k+1)) (.cons (.iff (.cmp .eq (.v 4) (.i 0)) (.o (.set 8 (.bi .max (.cons (.i 1) (.o (.v 8)))))) .nil) T) [~~~n,some (.int 5),~~~s,~~~h.length,m⁻¹,j⁻¹,some (.int zs[j]),M⁻¹,w⁻¹] (hh++[.lst z8])=exs ct (b0 ct F (k+1)) T [~~~n,some (.int 5),~~~s,~~~h.length,m⁻¹,j⁻¹,some (.int zs[j]),M⁻¹,u⁻¹] (hh++[.lst z8]):=by
   by_cases e0:(m:Int)=0
   · exact⟨v,⟨v1.1,fun _=>v1.2⟩,fun T=>seq (by simp_arith[op2,K0,eqS,e0,decide_true,v2])⟩
   · exact⟨w,⟨w1,fun z=>absurd (by omega) e0⟩,fun T=>seq (by simp_arith[op2,K0,eqS,e0,decide_false])⟩
  obtain⟨pw,ix⟩:=b1p (x:=M/8) hs.lo hs1
  have tr:a5F (hh++[.lst z8]) (.int (m:Int)) (.int ((m+u:Nat):Int))=.ok (.tup (rngD (m:Int) u)) (hh++[.lst z8]):=by
   simp only[a5F];rw[ay ⟨⟨U6 (by omega),U6 (by omega)⟩,by omega⟩]
   congr 3;omega
  have au:(m:Int)+(u:Int)=((m+u:Nat):Int):=by omega
  refine⟨_,[~~~n,some (.int 5),~~~s,~~~h.length,some (.int ((m+u:Nat):Int)),j⁻¹,some (.int zs[j]),M⁻¹,u⁻¹],(hh++[Cell.lst z8]).set h.length (Cell.lst (cs.map ceD++[ceD ⟨pk sh (M/8),m,u⟩])),rfl,?_,cs++[⟨pk sh (M/8),m,u⟩],m+u,_,_,_,_,rfl,P1.set (ai _),by rw[x5 b2,al];rfl,b7 (show h.length≠h.length+1 by omega) b3,by rw[ao,p4];rfl,⟨fun c hc=>?_,p7.snoc p8 us (by rw[←p8];exact u1),by rw[a0k,←p8]⟩,by omega⟩
  · show exs ct (b0 ct F (k+1)) cB1 [~~~n,some (.int 5),~~~s,~~~h.length,m⁻¹,j⁻¹,some (.int zs[j]),e7,e8] hh=_
    unfold cB1;rw[seq (env':=[~~~n,some (.int 5),~~~s,~~~h.length,m⁻¹,j⁻¹,some (.int zs[j]),M⁻¹,e8]) (h':=hh) (by simp_arith[op2,l7,a4,hM])]
    rw[seq (env':=[~~~n,some (.int 5),~~~s,~~~h.length,m⁻¹,j⁻¹,some (.int zs[j]),M⁻¹,w⁻¹]) (h':=hh++[.lst z8]) (by
     unfold c8E
     have s8:(z8.length<=SL)=True:=eq_true (by show 8<=16777216;decide)
     simp_arith[s8,if_true,o5,op2,m8,show[D.int 0,.int 1,.int 1,.int 1,.int 2,.int 2,.int 3,.int 4]=z8 from rfl,i8])]
    unfold cB2;rw[ue];unfold cB3
    rw[seq (env':=[~~~n,some (.int 5),~~~s,~~~h.length,m⁻¹,j⁻¹,some (.int zs[j]),M⁻¹,u⁻¹]) (h':=(hh++[Cell.lst z8]).set h.length (Cell.lst (cs.map ceD++[ceD ⟨pk sh (M/8),m,u⟩]))) (by
     simp_arith[C7 b2,op2,d8,a7c hs1,G7 sh.length (by have:=hs.lo;omega),ix,a0x,b4v,l7,au,tr,K9 (d:=ceD ⟨pk sh (M/8),m,u⟩) b2 (by rw[aa,p4];omega),show D.tup [.str (pk sh (M/8)),.tup (rngD (m:Int) u)]=ceD ⟨pk sh (M/8),m,u⟩ from rfl])]
    simp_arith[op2,l7,au]
  · rcases aK.mp hc with hc|hc
    · exact p5 c hc
    · rw[aP.mp hc];exact(a7T hs.lo (M/8)).1) ⟨[],0,none,none,none,none,rfl,pf,gW,gZ,rfl,⟨(fun c (hc:c∈([]:List Ce))=>absurd hc (by simp)),Ch.nil,rfl⟩,Nat.zero_le _⟩
 have a50:(5:Int)+50=55:=rfl
 rw[seq (env':=[~~~n,some (.int 5),~~~s,~~~h.length,m⁻¹,e5,e6,e7,e8]) (h':=g') (by simp_arith[op2,l7,a50,sl,Y4,gZ,e1])]
 rw[R6,aa,aB] at q5;refine⟨cs,⟨q6.1,q6.2.1⟩,by omega,?_⟩
 simp_arith[];exact a2d q2 q3 (ai _) (b1S cs)
end
open PySem
abbrev Rn:=Str×List Nat
noncomputable def a9X(sd:Nat->Str)(rr:List Rn)(i:Nat):List Rn:=match rr with
 |[]=>[(sd i,[i])]
 |r::t=>if r.1=sd i then(r.1,r.2++[i])::t else(sd i,[i])::r::t
def a1d(sd:Nat->Str):Nat->List Rn
 |0=>[]
 |n+1=>a9X sd (a1d sd n) n
def r8(sd:Nat->Str)(n:Nat):List Rn:=(a1d sd n).reverse
noncomputable def a3r(sd:Nat->Str):Nat->Nat
 |0=>0
 |n+1=>a3r sd n+(if sd (n+1)≠sd n then 1 else 0)
noncomputable def a5X(r:Rn):List Nat:=if r.1="right" then r.2.reverse else r.2
def a1R(way:Str)(rs:List Rn):List Nat:=((if way="right" then rs.reverse else rs).map a5X).flatten
structure RunsOk(sd:Nat->Str)(n:Nat)(rs:List Rn):Prop where
 fl:(rs.map (·.2)).flatten=List.range n
 at':∀t r,rs[t]? =some r->∀i∈r.2,a3r sd i=t/\sd i=r.1
theorem a2p(sd:Nat->Str):∀n,RunsOk sd n (r8 sd n)/\(∀m,n=m+1->∃t r,a1d sd n=r::t/\t.length=a3r sd m/\r.1=sd m)
 |0=>⟨⟨rfl,fun t r h=>by cases h⟩,fun m h=>by cases h⟩
 | n + 1 =>by
  obtain⟨⟨fl,at'⟩,la⟩:=a2p sd n;unfold r8 at fl at'⊢;rw[show a1d sd (n+1)=a9X sd (a1d sd n) n from rfl]
  cases e:a1d sd n with
  | nil=>
   have n0:n=0:=by
    cases n with
    |zero=>rfl
    |succ m=>obtain⟨t,r,h,_⟩:=la m rfl;rw[e] at h;cases h
   subst n0;refine⟨⟨rfl,fun t r h i hi=>?_⟩,fun m hm=>⟨[],(sd 0,[0]),rfl,?_,?_⟩⟩
   · cases t with
     |zero=>
      obtain rfl:=ax h;obtain rfl:=aP.mp hi;exact⟨rfl,rfl⟩
     |succ t=>cases h
   · obtain rfl:0=m:=Nat.succ.inj hm;rfl
   · obtain rfl:0=m:=Nat.succ.inj hm;rfl
  | cons r t=>
   obtain⟨m,rfl⟩:∃m,n=m+1:=by
    cases n with
    |zero=>cases e
    |succ m=>exact⟨m,rfl⟩
   obtain⟨t',r',h,l1,l2⟩:=la m rfl;rw[e] at h;obtain⟨rfl,rfl⟩:r=r'/\t=t':=by injection h with a b;exact⟨a,b⟩
   rw[e,reverse_cons] at fl at';rw[al,flatten_append] at fl
   have fl':(List.map (·.2) t.reverse).flatten++r.2=List.range (m+1):=by rw[←fl];simp
   show RunsOk sd (m+1+1) (if r.1=sd (m+1) then(r.1,r.2++[m+1])::t else(sd (m+1),[m+1])::r::t).reverse/\_
   by_cases w:r.1=sd (m+1)
   · rw[ay w]
     have rn:a3r sd (m+1)=t.length:=by
      show a3r sd m+(if sd (m+1)≠sd m then 1 else 0)=_
      rw[az (fun z=>z (w.symm.trans l2)),l1]
      rfl
     refine⟨⟨?_,fun k s h i hi=>?_⟩,fun m' hm=>?_⟩
     · rw[reverse_cons,al,flatten_append,bx,←fl'];simp
     · rw [reverse_cons] at h
       by_cases kt:k<t.length
       · exact at' k s (by rw[av (by simpa using kt)] at h⊢;exact h) i hi
       · rw[aq (by simp;omega),length_reverse] at h
         obtain⟨d,rfl⟩:∃d,k=t.length+d:=⟨k-t.length,by omega⟩
         rw[Nat.add_sub_cancel_left] at h
         cases d with
         |succ d=>cases h
         |zero=>
          obtain rfl:=ax h
          rcases aK.mp hi with hi|hi
          · exact at' t.length r (by rw[aq (by simp),length_reverse,bC];rfl) i hi
          · obtain rfl:=aP.mp hi;exact⟨rn,w.symm⟩
     · obtain rfl:m+1=m':=Nat.succ.inj hm;exact⟨t,_,ay w,rn.symm,w⟩
   · rw[az w]
     have rn:a3r sd (m+1)=t.length+1:=by
      show a3r sd m+(if sd (m+1)≠sd m then 1 else 0)=_
      rw[ay (fun z=>w (l2.trans z.symm)),l1]
     refine⟨⟨?_,fun k s h i hi=>?_⟩,fun m' hm=>?_⟩
     · rw[reverse_cons,reverse_cons,al,flatten_append,al,flatten_append,bx,←fl'];simp
     · rw [reverse_cons,reverse_cons] at h
       by_cases kt:k<t.length+1
       · exact at' k s (by rw[av (by simpa using kt)] at h;exact h) i hi
       · rw[aq (by simp;omega),ao,length_reverse,List.length_singleton] at h
         obtain⟨d,rfl⟩:∃d,k=t.length+1+d:=⟨k-(t.length+1),by omega⟩
         rw[Nat.add_sub_cancel_left] at h
         cases d with
         |succ d=>cases h
         |zero=>
          obtain rfl:=ax h;obtain rfl:=aP.mp hi;exact⟨rn,rfl⟩
     · obtain rfl:m+1=m':=Nat.succ.inj hm;exact⟨r::t,_,az w,rn.symm,rfl⟩
theorem a3X{f:Rn->List Nat}(hf:∀r,(f r).Perm r.2):∀rs:List Rn,((rs.map f).flatten).Perm (rs.map (·.2)).flatten
 |[]=>.refl _
 |r::t=>by
  rw[map_cons,map_cons,flatten_cons,flatten_cons];exact(hf r).append (a3X hf t)
theorem a9a(r:Rn):(a5X r).Perm r.2:=by
 unfold a5X
 split
 · exact List.reverse_perm _
 · exact .refl _
variable{sd:Nat->Str}{way:Str}
theorem a5W:(a1R way (r8 sd n)).Perm (List.range n):=by
 rw[←(a2p sd n).1.fl];refine(a3X a9a _).trans ?_
 split
 · exact(((List.reverse_perm _).map _).flatten)
 · exact .refl _
theorem b3G:(a1R way (r8 sd n)).length=n:=by rw[a5W.length_eq,aI]
noncomputable def a6l(c:Ce):Int:=if c.k=0 then(c.lo:Int)-1 else c.lo
def u8(cs:List Ce):List D:=cs.map fun c=>.int (a6l c)
theorem a3Y(f:α->Int)(l:List α):D.flats (l.map fun x=>.int (f x))=true:=D9 fun d hd=>by
 obtain⟨c,_,rfl⟩:=ak.mp hd;rfl
theorem a7C{c:Cell}:(h++[c]).set h.length c'=h++[c']:=by
 rw[set_append_right _ _ (ai _),bC];rfl
theorem a8C(hl:xs.length<1000000):mtD .append (h++[.lst xs]) (.ref h.length) [d]=.ok .non (h++[.lst (xs++[d])]):=by
 rw[K9 b6 hl,a7C]
variable{lo:Int}
theorem a4P{k:Nat}:biD .len h [.tup (rngD lo k)]=.ok (.int (k:Int)) h:=by
 simp only[biD,rngD,aa,aI]
theorem b2w{xs:List α}{d:α}(hd:xs[xs.length-1]? =some d):atI xs (-1)=some d:=by
 have hl:=(ac.mp hd).1
 unfold atI
 have e:ixN xs.length (-1)=some (xs.length-1):=by
  unfold ixN;rw[az (by omega),ay (by omega)]
  congr 1;omega
 rw[e];exact hd
theorem a9M(hd:xs[xs.length-1]? =some d):ixD h (.tup xs) (.int (-1))=.ok d h:=by
 simp only[ixD,b2w hd]
theorem a7N{k i:Nat}(hi:i<k):(rngD lo k)[i]? =some (.int (lo+(i:Nat))):=by
 unfold rngD;rw[aj,aJ hi]
 rfl
theorem a4C{k:Nat}:(rngD lo k).length=k:=by simp[rngD]
theorem a8T{k:Nat}(hk:0<k):ixD h (.tup (rngD lo k)) (.int 0)=.ok (.int lo) h:=by
 have:(rngD lo k)[0]? =some (.int lo):=by rw[a7N hk];simp
 exact ix_tup (i:=0) this
theorem b0k{k:Nat}(hk:0<k):ixD h (.tup (rngD lo k)) (.int (-1))=.ok (.int (lo+(k:Int)-1)) h:=by
 refine a9M ?_
 rw[a4C,a7N (by omega)]
 congr 2;omega
theorem ce1{c:Ce}:ixD h (ceD c) (.int 1)=.ok (.tup (rngD (c.lo:Int) c.k)) h:=ix_tup (i:=1) rfl
theorem ce0{c:Ce}:ixD h (ceD c) (.int 0)=.ok (.str c.n) h:=ix_tup (i:=0) rfl
theorem gt0{k:Nat}:op2 .gt h (.int (k:Int)) (.int 0)=.ok (.bl (decide (0<k))) h:=by
 show R.ok (D.bl (decide ((0:Int)<(k:Int)))) h=_
 congr 2;exact decide_eq_decide.mpr (by omega)
theorem eq0{k:Nat}:op2 .eq h (.int (k:Int)) (.int 0)=.ok (.bl (decide (k=0))) h:=by
 show R.ok (D.bl (decide ((k:Int)=0))) h=_
 congr 2;exact decide_eq_decide.mpr (by omega)
theorem b9Y{i j:Int}:op2 .add h (.int i) (.int j)=.ok (.int (i+j)) h:=rfl
section
variable{F:Nat->Option Fn}
section
variable{t:T}{a b:E}
theorem b2b:ev ct c (.rev a) env h=(ev ct c a env h).bind fun x h1=>b0u h1 x:=by(rw[ev];try rfl)
theorem b7d:ev ct c (.isl a) env h=(ev ct c a env h).bind fun x h1=>if b1v h1 x=true then .ok (.bl true) h1 else .no:=by(rw[ev];try rfl)
end
theorem b1z{k:Nat}(hF:F 33=some F0)(C:Ch cs)(hw:h[w]? =some (.lst (cs.map ceD)))(hl:cs.length<=63):b0 ct F (k+1) 33 [.ref w] h=.ok (.ref h.length) (h++[.lst (u8 cs)]):=by
 rw[i6 hF rfl];simp only[F0]
 show gcR 2 h (Q4 (exs ct (b0 ct F k) _ [~~~w,none,none,none] h))=_
 rw[seq (env':=[~~~w,~~~h.length,none,none]) (h':=h++[Cell.lst []]) (by simp_arith[o5])]
 rw[seq (env':=[~~~w,~~~h.length,some .non,none]) (h':=h++[Cell.lst []]) (by simp_arith[])]
 obtain⟨env',g',e1,e2,e3,rfl,rfl,_⟩:=B6 (g:=[(w,.lst (cs.map ceD))]) (p:=.nm 3) (body:=exs ct (b0 ct F k) hoB) (fun j env hh=>∃e2 e3,env=[~~~w,~~~h.length,some e2,e3]/\hh=h++[.lst (u8 (cs.take j))]/\(0<j->e2=.int ((M1 (cs.take j):Int)-1))) (fun j env hh hP=>by
  obtain⟨_,_,_,rfl,_⟩:=hP;simp[gOk,b5 hw]) (cs.map ceD) 0 [~~~w,~~~h.length,some .non,none] (h++[Cell.lst []]) (fun j x env hh hx hP=>by
  obtain⟨e2,e3,rfl,rfl,he⟩:=hP;rw[aj] at hx
  obtain⟨c,hc,rfl⟩:=Option.map_eq_some_iff.mp hx;have hj:=(ac.mp hc).1
  rw[aB] at he⊢;obtain⟨c1,c2⟩:=C.lo j c hc
  have tk:cs.take (j+1)=cs.take j++[c]:=by rw[take_succ,hc];rfl
  have l6:(u8 (cs.take j)).length<1000000:=by unfold u8;rw[aa,aM];omega
  by_cases k0:c.k=0
  · have j0:0<j:=by
     cases j with
     |zero=>have:=C.fst c hc;omega
     |succ j=>exact Nat.succ_pos j
    refine⟨_,[~~~w,~~~h.length,some e2,some (ceD c)],h++[.lst (u8 (cs.take (j+1)))],rfl,?_,_,_,rfl,rfl,fun _=>?_⟩
    · show exs ct (b0 ct F k) hoB [~~~w,~~~h.length,some e2,some (ceD c)] _=_
      have e:u8 (cs.take (j+1))=u8 (cs.take j)++[e2]:=by
       rw[tk,he j0];unfold u8 a6l;rw[al,map_cons,map_nil,ay k0,c1]
      unfold hoB;rw[e];simp_arith[ce1,a4P,gt0,k0,aR,decide_false,C7 b6,a8C l6]
    · rw[tk,a0k,k0,he j0,Nat.add_zero]
  · have kp:0<c.k:=by omega
    refine⟨_,[~~~w,~~~h.length,some (.int ((c.lo:Int)+(c.k:Int)-1)),some (ceD c)],h++[.lst (u8 (cs.take (j+1)))],rfl,?_,_,_,rfl,rfl,fun _=>?_⟩
    · show exs ct (b0 ct F k) hoB [~~~w,~~~h.length,some e2,some (ceD c)] _=_
      have e:u8 (cs.take (j+1))=u8 (cs.take j)++[.int (c.lo:Int)]:=by
       rw[tk];unfold u8 a6l;rw[al,map_cons,map_nil,az k0]
      unfold hoB;rw[e];simp_arith[ce1,a4P,gt0,kp,decide_true,C7 b6,a8T kp,b0k kp,a8C l6]
    · rw[tk,a0k,c1];congr 1) ⟨.non,none,rfl,by simp[u8],fun z=>absurd z (by omega)⟩
 rw[seq (env':=[~~~w,~~~h.length,some e2,e3]) (h':=h++[.lst (u8 (cs.take (0+(cs.map ceD).length)))]) (by simp_arith[V6,b5 hw,e1])]
 rw[aa,aB,bn];simp_arith[];exact gc2 b6 (ai _) (a3Y _ _)
theorem b3O(w:Nat):∃v:Nat,1<=v/\∀h:AH,biD .max h [.int 1,.int (w:Int)]=.ok (.int (v:Int)) h:=by
 by_cases e:(w:Int)>1
 · exact⟨w,by omega,fun h=>by simp only[biD,e,if_true]⟩
 · exact⟨1,ai _,fun h=>by simp only[biD,e,if_false];rfl⟩
def Lr(w:Str):Prop:=w="left"∨w="right"
theorem lr2:∀i:Fin 2,∃w:Str,Lr w/\[D.str "left",.str "right"][i.val]? =some (.str w)
 |⟨0,_⟩=>⟨_,.inl rfl,rfl⟩
 |⟨1,_⟩=>⟨_,.inr rfl,rfl⟩
theorem b2F{k T:Nat}(f201:F 201=some w8)(f202:F 202=some l0)(hF:F 218=some F8)(hr:h[n]? =some (.rol (ns.map .int)))(hT:T<=300):∃ws:List Str,ws.length=T/\(∀w∈ws,Lr w)/\b0 ct F (k+2) 218 [.ref n,.int (T:Int)] h=.ok (.ref h.length) (h++[.lst (ws.map .str)]):=by
 obtain⟨a4,h4⟩:=X5 (ct:=ct) (k:=k) (j:=4) f201 (b5 (g:=[Cell.lst []]) hr);obtain⟨M,hM⟩:=C1 (ct:=ct) (k:=k) (c:=a4) (j:=9) (h:=h++[Cell.lst []]) f202 (by omega)
 obtain⟨v,v1,v2⟩:=b3O ns.length;rw[i6 hF rfl];simp only[F8]
 show∃ws:List Str,_/\_/\gcR 2 h (Q4 (exs ct (b0 ct F (k+1)) _ [~~~n,T⁻¹,none,none,none,none,none] h))=_
 rw[seq (env':=[~~~n,T⁻¹,~~~h.length,none,none,none,none]) (h':=h++[Cell.lst []]) (by simp_arith[o5])]
 rw[seq (env':=[~~~n,T⁻¹,~~~h.length,some (.str "left"),none,none,none]) (h':=h++[Cell.lst []]) (by simp_arith[])]
 rw[seq (env':=[~~~n,T⁻¹,~~~h.length,some (.str "left"),M⁻¹,none,none]) (h':=h++[Cell.lst []]) (by simp_arith[show b0 ct F (k+1) 201 [.ref n,.int 4] (h++[Cell.lst []])=.ok (.int a4) (h++[Cell.lst []]) from h4,hM])]
 obtain⟨env',g',e1,ws,w,e5,e6,rfl,q1,q2,q3,q4,q5⟩:=B6 (g:=[]) (p:=.nm 5) (body:=exs ct (b0 ct F (k+1)) (.cons (.set 6 wyA) (.cons wyB wyC))) (fun j env hh=>∃ws:List Str,∃w e5 e6,env=[~~~n,T⁻¹,~~~h.length,some (.str w),M⁻¹,e5,e6]/\Pf h hh/\hh[h.length]? =some (.lst (ws.map .str))/\ws.length=j/\Lr w/\∀w∈ws,Lr w) (fun _ _ _ _=>rfl) ((List.range T).map fun i=>.int ((0:Int)+(i:Nat))) 0 [~~~n,T⁻¹,~~~h.length,some (.str "left"),M⁻¹,none,none] (h++[Cell.lst []]) (fun j x env hh hx hP=>by
  obtain⟨ws,w,e5,e6,rfl,p1,p2,p3,p4,p5⟩:=hP;obtain⟨hj,rfl⟩:=a2J hx;rw[aB] at p3⊢;have r1:=p1.at hr
  have rl:rdL hh n=some (ns.map .int):=by unfold rdL;rw[r1]
  have le:biD .len hh [.ref n]=.ok (.int (ns.length:Int)) hh:=by simp only[biD,r1,rl,aa]
  obtain⟨a,ha⟩:=X5 (ct:=ct) (k:=k) (j:=j%v) f201 r1
  have a5:((j:Nat):Int)+500=((j+500:Nat):Int):=by omega
  obtain⟨N,hN⟩:=C1 (ct:=ct) (k:=k) (c:=a) (j:=((j+500:Nat):Int)) (h:=hh) f202 (by omega)
  have m4:∀h,u0 h (.int (N:Int)) (.int 4)=.ok (.int ((N%4:Nat):Int)) h:=fun h=>G7 4 (by decide)
  have m3:∀h,u0 h (.int (M:Int)) (.int 3)=.ok (.int ((M%3:Nat):Int)) h:=fun h=>G7 3 (by decide)
  have d4:∀h,D3 h (.int (N:Int)) (.int 4)=.ok (.int ((N/4:Nat):Int)) h:=fun h=>R7 4 (by decide) (by decide)
  have m2:∀h,u0 h (.int ((N/4:Nat):Int)) (.int 2)=.ok (.int ((N/4%2:Nat):Int)) h:=fun h=>G7 2 (by decide)
  obtain⟨u,u1,u2⟩:=lr2 ⟨N/4%2,Nat.mod_lt _ (by decide)⟩
  obtain⟨w',g,l1,e1⟩:∃w' g,Lr w'/\ex ct (b0 ct F (k+1)) wyB [~~~n,T⁻¹,~~~h.length,some (.str w),M⁻¹,j⁻¹,N⁻¹] hh=.ok (.nx [~~~n,T⁻¹,~~~h.length,some (.str w'),M⁻¹,j⁻¹,N⁻¹]) (hh++g):=by
   unfold wyB
   by_cases lt:((N%4:Nat):Int)<1+((M%3:Nat):Int)
   · refine⟨u,[.lst [.str "left",.str "right"]],u1,?_⟩
     simp_arith[op2,m4,m3,l7,E8,lt,decide_true,o5,d4,m2,B9 (h:=hh++[.lst [.str "left",.str "right"]]) b6 u2]
   · refine⟨w,[],p4,?_⟩
     rw[bh];simp_arith[op2,m4,m3,l7,E8,lt,decide_false]
  have b2:=b5 (g:=g) p2;refine⟨_,[~~~n,T⁻¹,~~~h.length,some (.str w'),M⁻¹,j⁻¹,N⁻¹],(hh++g).set h.length (.lst ((ws++[w']).map .str)),rfl,?_,ws++[w'],w',_,_,rfl,(p1.app g).set (ai _),x5 b2,by rw[ao,p3];rfl,l1,fun x hx=>?_⟩
  · show exs ct (b0 ct F (k+1)) _ [~~~n,T⁻¹,~~~h.length,some (.str w),M⁻¹,j⁻¹,e6] hh=_
    rw[seq (env':=[~~~n,T⁻¹,~~~h.length,some (.str w),M⁻¹,j⁻¹,N⁻¹]) (h':=hh) (by
     unfold wyA;simp_arith[le,v2,op2,G7 v v1,ha,l7,a5,hN])]
    rw[seq e1];unfold wyC;simp_arith[C7 b2,K9 b2 (by rw[aa];omega),al]
  · rcases aK.mp hx with hx|hx
    · exact p5 x hx
    · rw[aP.mp hx];exact l1) ⟨[],"left",none,none,rfl,(Pf.refl h).app _,b6,rfl,.inl rfl,(fun w (hw:w∈([]:List Str))=>absurd hw (by simp))⟩
 rw[aa,aI,aB] at q3;refine⟨ws,q3,q5,?_⟩
 rw[seq (env':=_) (h':=g') (by simp_arith[a0J (h:=h++[Cell.lst []]) (m:=T) (by omega),e1];rfl)]
 simp_arith[];exact a2d q1 q2 (ai _) (L5 ws)
end
theorem b0Z{l:List (Str×D)}{k:Str}(e:h[n]? =some (.dict (kd l))):V9 true h (.str k) (.ref n)=.ok (.bl (!decide (k∈l.map (·.1)))) h:=by
 simp only[V9,e,W5,if_true,a7m];simp
noncomputable def isB(mk:List Str)(cs:List Ce)(i:Nat):Bool:=match cs[i]? with
 |some c=>!decide (c.n∈mk)
 |none=>false
def n4(mk:List Str)(cs:List Ce)(j:Nat):List Nat:=(List.range j).filter (isB mk cs)
def J8(mk:List Str)(cs:List Ce):List Nat:=n4 mk cs cs.length
def a1M(cs:List Ce)(ws:List Str)(p:Nat):Str:=match cs[p]? with
 |some c=>ws.getD (a6l c).toNat ""
 |none=>""
def sdB(mk:List Str)(cs:List Ce)(ws:List Str)(i:Nat):Str:=a1M cs ws ((J8 mk cs).getD i 0)
def plB(mk:List Str)(cs:List Ce)(i:Nat):D:=.int (((J8 mk cs).getD i 0:Nat):Int)
variable{mk:List Str}
theorem X9:n4 mk cs (j+1)=n4 mk cs j++(if isB mk cs j=true then[j] else[]):=by
 unfold n4;rw[bx,List.filter_append];congr 1
 by_cases e:isB mk cs j=true
 · rw[ay e,List.filter_cons_of_pos e];rfl
 · rw[az e,List.filter_cons_of_neg e];rfl
theorem b2u(hj:j<cs.length)(e:isB mk cs j=true):(J8 mk cs)[(n4 mk cs j).length]? =some j:=by
 have r:List.range cs.length=List.range (j+1)++(List.range (cs.length-(j+1))).map (j+1+ ·):=by
  rw[←List.range_add];congr 1;omega
 have:J8 mk cs=n4 mk cs j++([j]++((List.range (cs.length-(j+1))).map (j+1+ ·)).filter (isB mk cs)):=by
  rw[←aA];have z:=X9 (mk:=mk) (cs:=cs) (j:=j);rw[ay e] at z;rw[←z];unfold J8 n4;rw[r,List.filter_append]
 rw[this,aq (ai _),bC]
 rfl
theorem b2U{t:Nat}:M1 (cs.take t)<=M1 cs:=by
 have:=congrArg M1 (take_append_drop t cs)
 unfold M1 at this⊢;rw[al,sum_append] at this;omega
theorem a9V(C:Ch cs){t:Nat}(ht:0<t)(hl:0<cs.length):1<=M1 (cs.take t):=by
 cases cs with
 |nil=>cases hl
 |cons c r=>
  have:=C.fst c rfl
  obtain⟨t,rfl⟩:∃s,t=s+1:=⟨t-1,by omega⟩
  unfold M1;rw[List.take_succ_cons,map_cons,sum_cons];omega
theorem b4f(C:Ch cs){t:Nat}{c:Ce}(hc:cs[t]? =some c):∃q:Nat,a6l c=(q:Int)/\q<M1 cs:=by
 have hl:=(ac.mp hc).1
 obtain⟨c1,c2⟩:=C.lo t c hc
 have tk:cs.take (t+1)=cs.take t++[c]:=by rw[take_succ,hc];rfl
 have s1:=b2U (cs:=cs) (t:=t+1);rw[tk,a0k] at s1;unfold a6l
 by_cases k0:c.k=0
 · have t0:0<t:=by
    cases t with
    |zero=>have:=C.fst c hc;omega
    |succ t=>exact Nat.succ_pos t
   have:=a9V C t0 (by omega)
   rw[ay k0];exact⟨c.lo-1,by omega,by omega⟩
 · rw[az k0];exact⟨c.lo,rfl,by omega⟩
theorem b0c(C:Ch cs){t:Nat}{c:Ce}(hc:cs[t]? =some c)(hs:ws.length=M1 cs)(hw:∀w∈ws,Lr w):Lr (a1M cs ws t)/\∀{h:AH} {v:Nat},h[v]? =some (.lst (ws.map .str))->ixD h (.ref v) (.int (a6l c))=.ok (.str (a1M cs ws t)) h:=by
 obtain⟨q,q1,q2⟩:=b4f C hc
 have q3:q<ws.length:=by omega
 have e:a1M cs ws t=ws[q]:=by
  unfold a1M;simp only[hc];rw[q1,Int.toNat_natCast,bA,af q3]
  rfl
 rw[e,q1];exact⟨hw _ (bw q3),fun hv=>B9 hv (by rw[aj,af q3];rfl)⟩
noncomputable def tgs(b:Nat):List Rn->List (Rn×Nat)
 |[]=>[]
 |r::t=>(r,b)::tgs (b+1) t
noncomputable def tgD(y:Rn×Nat):D:=.tup [.str y.1.1,.ref y.2]
theorem a2k:∀(b:Nat) (rs:List Rn),(tgs b rs).map (·.1)=rs
 |_,[]=>rfl
 |b,r::t=>by rw[tgs,map_cons,a2k (b+1) t]
theorem a7A(b:Nat)(rs:List Rn):(tgs b rs).length=rs.length:=by
 have:=congrArg List.length (a2k b rs)
 rwa [aa] at this
theorem U5:∀(b:Nat) (rs:List Rn) (r:Rn),tgs b (rs++[r])=tgs b rs++[(r,b+rs.length)]
 |b,[],r=>rfl
 |b,x::t,r=>by
  rw[cons_append,tgs,U5 (b+1) t r,tgs,length_cons,show b+(t.length+1)=b+1+t.length by omega]
  rfl
theorem a7z{y:Rn×Nat}:∀{b:Nat} {rs:List Rn},y∈tgs b rs->∃t,y.2=b+t/\rs[t]? =some y.1
 |_,[],h=>absurd h (by simp[tgs])
 |b,r::t,h=>by
  rw[tgs] at h
  rcases aE.mp h with rfl|h
  · exact⟨0,rfl,rfl⟩
  · obtain⟨s,h1,h2⟩:=a7z h;exact⟨s+1,by omega,h2⟩
noncomputable def clR(pl:Nat->D)(r:Rn):Cell:=.lst (r.2.map pl)
def hpR(h:AH)(hm:Cell)(pl:Nat->D)(rs:List Rn):AH:=h++(hm::.lst ((tgs (h.length+2) rs).map tgD)::rs.map (clR pl))
variable{rs:List Rn}
section
variable{hm:Cell}{pl:Nat->D}
theorem a1m:(hpR h hm pl rs)[h.length+1]? =some (.lst ((tgs (h.length+2) rs).map tgD)):=by
 unfold hpR;rw[aq (by omega),show h.length+1-h.length=1 by omega]
 rfl
theorem b9g:(hpR h hm pl rs)[h.length]? =some hm:=by
 unfold hpR;rw[aq (ai _),bC]
 rfl
theorem b6S:(hpR h hm pl rs).length=h.length+2+rs.length:=by
 unfold hpR;simp;omega
theorem a8k{t:Nat}{r:Rn}(e:rs[t]? =some r):(hpR h hm pl rs)[h.length+2+t]? =some (clR pl r):=by
 unfold hpR;rw[aq (by omega),show h.length+2+t-h.length=t+1+1 by omega,List.getElem?_cons_succ,List.getElem?_cons_succ,aj,e]
 rfl
theorem b6R{w:Str}:(hpR h hm pl rs++[Cell.lst []]).set (h.length+1) (Cell.lst ((tgs (h.length+2) rs).map tgD++[D.tup [.str w,.ref (hpR h hm pl rs).length]]))=hpR h hm pl (rs++[(w,[])]):=by
 rw[b6S];unfold hpR;rw[aA,set_append_right _ _ (by omega),show h.length+1-h.length=1 by omega,U5,al,al]
 rfl
theorem b4e{w:Str}{ps:List Nat}{m:Nat}:(hpR h hm pl (rs++[(w,ps)])).set (h.length+2+rs.length) (Cell.lst (ps.map pl++[pl m]))=hpR h hm pl (rs++[(w,ps++[m])]):=by
 unfold hpR;rw[set_append_right _ _ (by omega),show h.length+2+rs.length-h.length=rs.length+1+1 by omega,set_cons_succ,set_cons_succ,U5,U5,al,al,al,al,set_append_right _ _ (by rw[aa];exact ai _),aa,bC]
 simp[clR,tgD]
end
theorem a6e(hn:h[n]? =some (.lst (xs++[d]))):ixD h (.ref n) (.int (-1))=.ok d h:=by
 have:atI (xs++[d]) (-1)=some d:=b2w (by simp)
 simp only[ixD,hn,this]
section
variable{F:Nat->Option Fn}
theorem b5O{k m:Nat}{a b v r:D}{e6:Option D}{pl:Nat->D}{hm:Cell}(hl:m<=100):exs ct (b0 ct F k) (.cons brN brA) [some a,some b,some v,some r,some (.ref (h.length+1)),some (pl m),e6,some (.str (sd m))] (hpR h hm pl (r8 sd m))=.ok (.nx [some a,some b,some v,some r,some (.ref (h.length+1)),some (pl m),e6,some (.str (sd m))]) (hpR h hm pl (r8 sd (m+1))):=by
 have F1:=(a2p sd m).1.fl
 have add:∀(t:List Rn) (ps:List Nat),ps.length<=1000->exs ct (b0 ct F k) brA [some a,some b,some v,some r,some (.ref (h.length+1)),some (pl m),e6,some (.str (sd m))] (hpR h hm pl (t++[(sd m,ps)]))=.ok (.nx [some a,some b,some v,some r,some (.ref (h.length+1)),some (pl m),e6,some (.str (sd m))]) (hpR h hm pl (t++[(sd m,ps++[m])])):=fun t ps hp=>by
  have g1:=a1m (h:=h) (hm:=hm) (pl:=pl) (rs:=t++[(sd m,ps)]);rw[U5,al] at g1
  have i1:ixD (hpR h hm pl (t++[(sd m,ps)])) (.ref (h.length+1)) (.int (-1))=.ok (.tup [.str (sd m),.ref (h.length+2+t.length)]) (hpR h hm pl (t++[(sd m,ps)])):=a6e g1
  have i2:ixD (hpR h hm pl (t++[(sd m,ps)])) (.tup [.str (sd m),.ref (h.length+2+t.length)]) (.int 1)=.ok (.ref (h.length+2+t.length)) (hpR h hm pl (t++[(sd m,ps)])):=ix_tup (i:=1) rfl
  have g2:(hpR h hm pl (t++[(sd m,ps)]))[h.length+2+t.length]? =some (.lst (ps.map pl)):=a8k (r:=(sd m,ps)) (by simp)
  unfold brA;simp_arith[i1,i2,C7 g2,K9 g2 (show(ps.map pl).length<1000000 by rw[aa];omega),b4e]
 have new:∀rs:List Rn,rs.length<=1000->ev ct (b0 ct F k) (.mt .append (.v 4) (.o (.tup (.cons (.v 7) (.o (.lst .nil)))))) [some a,some b,some v,some r,some (.ref (h.length+1)),some (pl m),e6,some (.str (sd m))] (hpR h hm pl rs)=.ok .non (hpR h hm pl (rs++[(sd m,[])])):=fun rs hr=>by
  have g1:=a1m (h:=h) (hm:=hm) (pl:=pl) (rs:=rs);simp_arith[C7 g1,o5,K9 (b5 g1) (show((tgs (h.length+2) rs).map tgD).length<1000000 by rw[aa,a7A];omega),b6R]
 unfold r8 at F1⊢;rw[show a1d sd (m+1)=a9X sd (a1d sd m) m from rfl]
 cases e:a1d sd m with
 | nil=>
  have le:biD .len (hpR h hm pl []) [.ref (h.length+1)]=.ok (.int 0) (hpR h hm pl []):=A9 a1m
  have n0:=new [] (by simp)
  rw[List.reverse_nil]
  rw[seq (env':=[some a,some b,some v,some r,some (.ref (h.length+1)),some (pl m),e6,some (.str (sd m))]) (h':=hpR h hm pl ([]++[(sd m,[])])) (by
   unfold brN;rw[a3c,a4q];rw[show tst ct (b0 ct F k) (.cmp .eq (.bi .len (.o (.v 4))) (.i 0)) [some a,some b,some v,some r,some (.ref (h.length+1)),some (pl m),e6,some (.str (sd m))] (hpR h hm pl [])=.ok true (hpR h hm pl []) by simp_arith[le,op2,K0,eqS,decide_true]]
   rw[b9,ay rfl,b9,ay rfl,J0,b1X,n0];simp_arith[])]
  rw[add [] [] (by simp)]
  rfl
 | cons q t=>
  rw[e] at F1
  have tl:t.length<=m/\q.2.length<=m:=by
   have:=congrArg List.length F1
   rw[aI,reverse_cons,al,flatten_append,ao] at this
   have ll:q.2.length<=m:=by
    rw[←this];simp
   refine⟨?_,ll⟩
   have:=(a2p sd m).2
   cases m with
   |zero=>cases e
   | succ m'=>
    obtain⟨t',r',h1,h2,_⟩:=this m' rfl;rw[e] at h1
    injection h1 with _ h1
    rw[h1,h2]
    have:∀i,a3r sd i<=i:=fun i=>by
     induction i with
     |zero=>exact ai _
     |succ i ih=>
      unfold a3r
      split<;>omega
    have:=this m'
    omega
  have g1:=a1m (h:=h) (hm:=hm) (pl:=pl) (rs:=t.reverse++[q]);rw[U5,al] at g1
  have i1:ixD (hpR h hm pl (t.reverse++[q])) (.ref (h.length+1)) (.int (-1))=.ok (.tup [.str q.1,.ref (h.length+2+t.reverse.length)]) (hpR h hm pl (t.reverse++[q])):=a6e g1
  have le:biD .len (hpR h hm pl (t.reverse++[q])) [.ref (h.length+1)]=.ok (.int ((t.length+1:Nat):Int)) (hpR h hm pl (t.reverse++[q])):=by
   rw[A9 g1];congr 2;simp[a7A]
  have z0:op2 .eq (hpR h hm pl (t.reverse++[q])) (.int ((t.length+1:Nat):Int)) (.int 0)=.ok (.bl false) (hpR h hm pl (t.reverse++[q])):=by
   rw[eq0];rfl
  have n1:op2 .ne (hpR h hm pl (t.reverse++[q])) (.str q.1) (.str (sd m))=.ok (.bl (!decide (q.1=sd m))) (hpR h hm pl (t.reverse++[q])):=rfl
  rw[reverse_cons]
  show _=R.ok _ (hpR h hm pl (if q.1=sd m then(q.1,q.2++[m])::t else(sd m,[m])::q::t).reverse)
  by_cases w:q.1=sd m
  · rw[ay w,reverse_cons]
    rw[seq (env':=[some a,some b,some v,some r,some (.ref (h.length+1)),some (pl m),e6,some (.str (sd m))]) (h':=hpR h hm pl (t.reverse++[q])) (by
     unfold brN;simp_arith[le,z0,i1,a0x,n1,bm w,Bool.not_true])]
    have:q=(sd m,q.2):=by rw[←w]
    rw[w];rw[show t.reverse++[q]=t.reverse++[(sd m,q.2)] by rw[←this]]
    exact add _ _ (by omega)
  · rw[az w,reverse_cons,reverse_cons];have n0:=new (t.reverse++[q]) (by simp;omega)
    rw[seq (env':=[some a,some b,some v,some r,some (.ref (h.length+1)),some (pl m),e6,some (.str (sd m))]) (h':=hpR h hm pl (t.reverse++[q]++[(sd m,[])])) (by
     unfold brN;rw[a3c,a4q];rw[show tst ct (b0 ct F k) (.cmp .eq (.bi .len (.o (.v 4))) (.i 0)) [some a,some b,some v,some r,some (.ref (h.length+1)),some (pl m),e6,some (.str (sd m))] (hpR h hm pl (t.reverse++[q]))=.ok false (hpR h hm pl (t.reverse++[q])) by simp_arith[le,z0]]
     rw[b9,az (by decide)]
     rw[show tst ct (b0 ct F k) (.cmp .ne (.ix (.ix (.v 4) (.neg (.i 1))) (.i 0)) (.v 7)) [some a,some b,some v,some r,some (.ref (h.length+1)),some (pl m),e6,some (.str (sd m))] (hpR h hm pl (t.reverse++[q]))=.ok true (hpR h hm pl (t.reverse++[q])) by simp_arith[i1,a0x,n1,w,decide_false,Bool.not_false]]
     rw[b9,ay rfl,J0,b1X,n0];simp_arith[])]
    exact add _ _ (by simp)
theorem a5u{k v:Nat}{H:HL}(f33:F 33=some F0)(hF:F 34=some F6)(A:HallAt h n (a0a H))(C:Ch cs)(hw:h[w]? =some (.lst (cs.map ceD)))(hv:h[v]? =some (.lst (ws.map .str)))(hs:ws.length=M1 cs)(hr:∀w∈ws,Lr w)(hl:cs.length<=63):
 b0 ct F (k+2) 34 [.ref n,.ref w,.ref v] h=.ok (.ref (h.length+1)) (hpR h (.lst (u8 cs)) (plB (H.mr.map (·.n)) cs) (r8 (sdB (H.mr.map (·.n)) cs ws) (J8 (H.mr.map (·.n)) cs).length)):=by
 have k2:(hM H.mr).map (·.1)=H.mr.map (·.n):=a1D _ _ _
 have l1:(h++[Cell.lst (u8 cs)]).length=h.length+1:=by simp
 rw[i6 hF rfl];simp only[F6]
 show gcR 0 h (Q4 (exs ct (b0 ct F (k+1)) _ [~~~n,~~~w,~~~v,none,none,none,none,none] h))=_
 rw[gc0];rw[seq (env':=[~~~n,~~~w,~~~v,~~~h.length,none,none,none,none]) (h':=h++[Cell.lst (u8 cs)]) (by simp_arith[b1z f33 C hw hl])]
 rw[seq (env':=[~~~n,~~~w,~~~v,~~~h.length,some (.ref (h.length+1)),none,none,none]) (h':=hpR h (.lst (u8 cs)) (plB (H.mr.map (·.n)) cs) (r8 (sdB (H.mr.map (·.n)) cs ws) 0)) (by
  have:hpR h (.lst (u8 cs)) (plB (H.mr.map (·.n)) cs) (r8 (sdB (H.mr.map (·.n)) cs ws) 0)=h++[Cell.lst (u8 cs)]++[Cell.lst []]:=by
   rw[aA];rfl
  rw[this];simp_arith[o5,l1])]
 generalize hmk:H.mr.map (·.n)=mk at k2
 generalize hsd:sdB mk cs ws=sd;generalize hpl:plB mk cs=pl;generalize hhm:Cell.lst (u8 cs)=hm
 obtain⟨env',g',e1,e5,e6,e7,rfl,rfl⟩:=B6 (g:=[(w,.lst (cs.map ceD))]) (p:=.tp (.cons (.nm 5) (.cons (.nm 6) .nil))) (body:=exs ct (b0 ct F (k+1)) brB) (fun j env hh=>∃e5 e6 e7,env=[~~~n,~~~w,~~~v,~~~h.length,some (.ref (h.length+1)),e5,e6,e7]/\hh=hpR h hm pl (r8 sd (n4 mk cs j).length)) (fun j env hh hP=>by
  obtain⟨_,_,_,_,rfl⟩:=hP
  have:(hpR h hm pl (r8 sd (n4 mk cs j).length))[w]? =some (.lst (cs.map ceD)):=by unfold hpR;exact b5 hw
  simp[gOk,this]) (x4 0 (cs.map ceD)) 0 [~~~n,~~~w,~~~v,~~~h.length,some (.ref (h.length+1)),none,none,none] (hpR h hm pl (r8 sd 0)) (fun j x env hh hx hP=>by
  obtain⟨e5,e6,e7,rfl,rfl⟩:=hP;obtain⟨y,hy,rfl⟩:=X3 hx;rw[aj] at hy
  obtain⟨c,hc,rfl⟩:=Option.map_eq_some_iff.mp hy;have hj:=(ac.mp hc).1
  rw[aB]
  have ml:(n4 mk cs j).length<=100:=by
   have:=List.length_filter_le (isB mk cs) (List.range j)
   rw[aI] at this;unfold n4;omega
  have A1:HallAt (hpR h hm pl (r8 sd (n4 mk cs j).length)) n (a0a H):=by unfold hpR;exact A.app _
  have v1:(hpR h hm pl (r8 sd (n4 mk cs j).length))[v]? =some (.lst (ws.map .str)):=by unfold hpR;exact b5 hv
  have hm1:(hpR h hm pl (r8 sd (n4 mk cs j).length))[h.length]? =some (.lst (u8 cs)):=by rw[hhm];exact b9g
  have i1:ixD (hpR h hm pl (r8 sd (n4 mk cs j).length)) (.ref h.length) (.int (j:Int))=.ok (.int (a6l c)) (hpR h hm pl (r8 sd (n4 mk cs j).length)):=B9 hm1 (by unfold u8;rw[aj,hc];rfl)
  have i2:=(b0c C hc hs hr).2 v1
  have ts:tst ct (b0 ct F (k+1)) (.cmp .notin (.ix (.v 6) (.i 0)) (.fld (.v 0) "marks")) [~~~n,~~~w,~~~v,~~~h.length,some (.ref (h.length+1)),j⁻¹,some (ceD c),e7] (hpR h hm pl (r8 sd (n4 mk cs j).length))=.ok (isB mk cs j) (hpR h hm pl (r8 sd (n4 mk cs j).length)):=by
   simp_arith[ce0,A1.fld2,op2,b0Z A1.c2];rw[show(a0a H).marks=hM H.mr from rfl,k2];unfold isB;rw[hc]
  by_cases b:isB mk cs j=true
  · have ba:=b2u hj b
    have bg:(J8 mk cs).getD (n4 mk cs j).length 0=j:=by rw[bA,ba];rfl
    have s1:sd (n4 mk cs j).length=a1M cs ws j:=by rw[←hsd];unfold sdB;rw[bg]
    have p1:pl (n4 mk cs j).length=.int (j:Int):=by rw[←hpl];unfold plB;rw[bg]
    have pt:=b5O (ct:=ct) (F:=F) (k:=k+1) (m:=(n4 mk cs j).length) (a:=.ref n) (b:=.ref w) (v:=.ref v) (r:=.ref h.length) (e6:=some (ceD c)) (sd:=sd) (pl:=pl) (h:=h) (hm:=hm) ml;rw[s1,p1] at pt;refine⟨_,_,_,rfl,?_,j⁻¹,some (ceD c),some (.str (a1M cs ws j)),rfl,rfl⟩
    show exs ct (b0 ct F (k+1)) brB [~~~n,~~~w,~~~v,~~~h.length,some (.ref (h.length+1)),j⁻¹,some (ceD c),e7] _=_
    unfold brB;rw[J0,a3c,ts,b9,ay b]
    rw[seq (env':=[~~~n,~~~w,~~~v,~~~h.length,some (.ref (h.length+1)),j⁻¹,some (ceD c),some (.str (a1M cs ws j))]) (h':=hpR h hm pl (r8 sd (n4 mk cs j).length)) (by
     unfold brO;simp_arith[i1,i2])]
    rw[pt,X9,ay b,ao,b9];rfl
  · refine⟨_,_,_,rfl,?_,j⁻¹,some (ceD c),e7,rfl,rfl⟩
    show exs ct (b0 ct F (k+1)) brB [~~~n,~~~w,~~~v,~~~h.length,some (.ref (h.length+1)),j⁻¹,some (ceD c),e7] _=_
    unfold brB;rw[J0,a3c,ts,b9,az b,X9,az b,bh];simp_arith[]) ⟨none,none,none,rfl,rfl⟩
 rw[R6,aa,aB] at e1
 have w1:(hpR h hm pl (r8 sd 0))[w]? =some (.lst (cs.map ceD)):=by unfold hpR;exact b5 hw
 rw[seq (env':=_) (h':=hpR h hm pl (r8 sd (n4 mk cs cs.length).length)) (by simp_arith[Y4,w1,e1];rfl)]
 simp_arith[];rfl
end
theorem b0o(e:h[n]? =some (.lst xs)):b0u h (.ref n)=.ok (.ref h.length) (h++[.lst xs.reverse]):=by
 simp only[b0u,e,o5]
theorem a7W(e:h[n]? =some (.lst xs)):mtT .extend h (.ref n)=true:=by
 simp only[mtT,rdL,e,Option.isSome_some]
theorem b1W{k:Nat}{ys:List D}(e1:h[n]? =some (.lst xs))(e2:h[k]? =some (.lst ys))(hl:xs.length+ys.length<=1000000):mtD .extend h (.ref n) [.ref k]=.ok .non (h.set n (.lst (xs++ys))):=by
 simp only[mtD,e1,e2];rw[ay (show xs.length+ys.length<=16777216 by omega)]
theorem a8n{c:Cell}:(h++[c]++g)[h.length]? =some c:=b5 b6
theorem a7D{c:Cell}:(h++[c]++g).set h.length c'=h++[c']++g:=by
 rw[aA,set_append_right _ _ (ai _),bC,aA];rfl
theorem b4D:op2 .eq h (.str x) (.str y)=.ok (.bl (decide (x=y))) h:=rfl
def S7(ys:List (Rn×Nat)):List Nat:=(ys.map fun y=>a5X y.1).flatten
section
variable{F:Nat->Option Fn}
theorem a8Q{k r:Nat}{a b v w:D}{ys:List (Rn×Nat)}{pl:Nat->D}(hr:h[r]? =some (.lst (ys.map tgD)))(hy:∀y∈ys,h[y.2]? =some (clR pl y.1))(hl:(S7 ys).length<=1000):
 ∃e6 e7 g,V0 [(r,.lst (ys.map tgD))] (.tp (.cons (.nm 6) (.cons (.nm 7) .nil))) (exs ct (b0 ct F k) soB) (ys.map tgD) [some a,some b,some v,some w,~~~r,~~~h.length,none,none] (h++[.lst []])=.ok (.nx [some a,some b,some v,some w,~~~r,~~~h.length,e6,e7]) (h++[.lst ((S7 ys).map pl)]++g):=by
 obtain⟨env',g',e1,e6,e7,g,rfl,rfl⟩:=B6 (g:=[(r,.lst (ys.map tgD))]) (p:=.tp (.cons (.nm 6) (.cons (.nm 7) .nil))) (body:=exs ct (b0 ct F k) soB) (fun j env hh=>∃e6 e7 g,env=[some a,some b,some v,some w,~~~r,~~~h.length,e6,e7]/\hh=h++[.lst ((S7 (ys.take j)).map pl)]++g) (fun j env hh hP=>by
  obtain⟨_,_,_,_,rfl⟩:=hP
  have:=b5 (g:=‹AH›) (b5 (g:=[Cell.lst ((S7 (ys.take j)).map pl)]) hr)
  simp only[gOk,all_cons,all_nil,this]
  simp) (ys.map tgD) 0 [some a,some b,some v,some w,~~~r,~~~h.length,none,none] (h++[.lst []]) (fun j x env hh hx hP=>by
  obtain⟨e6,e7,g,rfl,rfl⟩:=hP;rw[aj] at hx
  obtain⟨y,hc,rfl⟩:=Option.map_eq_some_iff.mp hx;rw[aB]
  have tk:S7 (ys.take (j+1))=S7 (ys.take j)++a5X y.1:=by
   unfold S7;rw[take_succ,hc,al,flatten_append];simp
  have ll:(S7 (ys.take j)).length+(a5X y.1).length<=1000:=by
   have:(S7 (ys.take (j+1))).length<=(S7 ys).length:=by
    have e:=congrArg (fun l=>(S7 l).length) (take_append_drop (j+1) ys)
    unfold S7 at e⊢;simp only[al,flatten_append,ao] at e;omega
   rw[tk,ao] at this;omega
  have q:=hy y (aG hc);have q1:=b5 (g:=g) (b5 (g:=[Cell.lst ((S7 (ys.take j)).map pl)]) q)
  have m1:(h++[Cell.lst ((S7 (ys.take j)).map pl)]++g)[h.length]? =some (.lst ((S7 (ys.take j)).map pl)):=a8n
  by_cases w:y.1.1="right"
  · have oR:a5X y.1=y.1.2.reverse:=ay w
    have rv:=b0o (h:=h++[Cell.lst ((S7 (ys.take j)).map pl)]++g) (n:=y.2) (xs:=y.1.2.map pl) q1;have m2:=b5 (g:=[Cell.lst (y.1.2.map pl).reverse]) m1
    have ex:=b1W (k:=(h++[Cell.lst ((S7 (ys.take j)).map pl)]++g).length) (ys:=(y.1.2.map pl).reverse) m2 b6 (by
     rw[oR,length_reverse] at ll;rw[aa,length_reverse,aa]
     omega)
    rw[aA (h++_) g,a7D] at ex;refine⟨_,_,_,rfl,?_,some (.str y.1.1),some (.ref y.2),g++[.lst (y.1.2.map pl).reverse],rfl,rfl⟩
    show exs ct (b0 ct F k) soB [some a,some b,some v,some _,~~~r,~~~h.length,some (.str y.1.1),some (.ref y.2)] _=_
    rw[tk,oR,al,map_reverse];unfold soB;rw[←aA] at ex;simp_arith[b4D,bm w,a7W m1,b2b,rv,ex]
  · have oR:a5X y.1=y.1.2:=az w
    have ex:=b1W (k:=y.2) (ys:=y.1.2.map pl) m1 q1 (by
     rw[oR] at ll;rw[aa,aa]
     omega)
    rw[a7D] at ex;refine⟨_,_,_,rfl,?_,some (.str y.1.1),some (.ref y.2),g,rfl,rfl⟩
    show exs ct (b0 ct F k) soB [some a,some b,some v,some _,~~~r,~~~h.length,some (.str y.1.1),some (.ref y.2)] _=_
    rw[tk,oR,al];unfold soB;simp_arith[b4D,bB w,a7W m1,ex]) ⟨none,none,[],rfl,by rw[bh];rfl⟩
 rw[aa,aB,bn] at e1;exact⟨e6,e7,g,e1⟩
def a3G(mk:List Str)(cs:List Ce)(ws:List Str)(way:Str):List D:=(a1R way (r8 (sdB mk cs ws) (J8 mk cs).length)).map (plB mk cs)
theorem a9t:D.flats (a3G mk cs ws way)=true:=a3Y _ _
theorem a4m:(J8 mk cs).length<=cs.length:=by
 have:=List.length_filter_le (isB mk cs) (List.range cs.length)
 rw[aI] at this;exact this
theorem b3f{k v:Nat}{H:HL}(f33:F 33=some F0)(f34:F 34=some F6)(hF:F 35=some G1)(A:HallAt h n (a0a H))(C:Ch cs)(hw:h[w]? =some (.lst (cs.map ceD)))(hv:h[v]? =some (.lst (ws.map .str)))(hs:ws.length=M1 cs)(hr:∀w∈ws,Lr w)(hl:cs.length<=63):
 b0 ct F (k+3) 35 [.ref n,.ref w,.ref v,.str way] h=.ok (.ref h.length) (h++[.lst (a3G (H.mr.map (·.n)) cs ws way)]):=by
 have br:=a5u (ct:=ct) (k:=k) f33 f34 A C hw hv hs hr hl;generalize hR:r8 (sdB (H.mr.map (·.n)) cs ws) (J8 (H.mr.map (·.n)) cs).length=rs at br
 have ol:(a1R way rs).length<=1000:=by
  rw[←hR,b3G]
  have:=a4m (mk:=H.mr.map (·.n)) (cs:=cs)
  omega
 generalize hpl:plB (H.mr.map (·.n)) cs=pl at br
 generalize hhm:Cell.lst (u8 cs)=hm at br;rw[i6 hF rfl];simp only[G1]
 show gcR 2 h (Q4 (exs ct (b0 ct F (k+2)) _ [~~~n,~~~w,~~~v,some (.str way),none,none,none,none] h))=_
 rw[seq (env':=[~~~n,~~~w,~~~v,some (.str way),some (.ref (h.length+1)),none,none,none]) (h':=hpR h hm pl rs) (by simp_arith[br])]
 have g1:=a1m (h:=h) (hm:=hm) (pl:=pl) (rs:=rs)
 have P1:Pf h (hpR h hm pl rs):=by unfold hpR;exact(Pf.refl h).app _
 have cl:∀y∈tgs (h.length+2) rs,(hpR h hm pl rs)[y.2]? =some (clR pl y.1):=fun y hy=>by
  obtain⟨t,t1,t2⟩:=a7z hy;rw[t1];exact a8k t2
 obtain⟨ys,r,g,e1,P2,r1,c1,o1⟩:∃(ys:List (Rn×Nat)) (r:Nat) (g:AH),ex ct (b0 ct F (k+2)) soR [~~~n,~~~w,~~~v,some (.str way),some (.ref (h.length+1)),none,none,none] (hpR h hm pl rs)=.ok (.nx [~~~n,~~~w,~~~v,some (.str way),~~~r,none,none,none]) g/\Pf h g/\g[r]? =some (.lst (ys.map tgD))/\(∀y∈ys,g[y.2]? =some (clR pl y.1))/\S7 ys=a1R way rs:=by
  unfold soR
  by_cases e:way="right"
  · refine⟨(tgs (h.length+2) rs).reverse,(hpR h hm pl rs).length,hpR h hm pl rs++[.lst ((tgs (h.length+2) rs).map tgD).reverse],?_,P1.app _,?_,fun y hy=>b5 (cl y (List.mem_reverse.mp hy)),?_⟩
    · simp_arith[b4D,bm e,b2b,b0o g1]
    · rw[map_reverse];exact b6
    · unfold S7 a1R;rw[ay e]
      conv=>rhs;rw[←a2k (h.length+2) rs]
      rw[←map_reverse,aH];rfl
  · refine⟨tgs (h.length+2) rs,h.length+1,hpR h hm pl rs,?_,P1,g1,cl,?_⟩
    · simp_arith[b4D,bB e]
    · unfold S7 a1R;rw[az e]
      conv=>rhs;rw[←a2k (h.length+2) rs]
      rw[aH];rfl
 rw[seq e1];rw[seq (env':=[~~~n,~~~w,~~~v,some (.str way),~~~r,~~~g.length,none,none]) (h':=g++[Cell.lst []]) (by simp_arith[o5])]
 obtain⟨e6,e7,g2,e2⟩:=a8Q (ct:=ct) (F:=F) (k:=k+2) (a:=.ref n) (b:=.ref w) (v:=.ref v) (w:=.str way) r1 c1 (by rw[o1];exact ol)
 rw[seq (env':=_) (h':=g++[.lst ((S7 ys).map pl)]++g2) (by simp_arith[V6,b5 (g:=[Cell.lst []]) r1,e2];rfl)]
 simp_arith[]
 have:a3G (H.mr.map (·.n)) cs ws way=(S7 ys).map pl:=by
  unfold a3G;rw[hR,hpl,o1]
 have fl:=a9t (mk:=H.mr.map (·.n)) (cs:=cs) (ws:=ws) (way:=way)
 rw[this] at fl⊢;exact a2d ((P2.app _).app _) a8n P2.len fl
end
def rl(sd:Nat->Str)(n j:Nat):List D:=(List.range n).map fun i=>.int (((if i<=j then a3r sd i else 0):Nat):Int)
variable{a0:D}{a1:D}{a2:D}{a4:D}{a5:D}{e9:Option D}
noncomputable def wOf(sh:List (Str×Nat))(n:Str):Int:=((sh.find? fun p=>decide (p.1=n)).map fun p=>(p.2:Int)).getD 0
theorem a5d{α:Type}(k:α->Str)(f:α->D)(n:Str):∀l:List α,k8 (kd (l.map fun x=>(k x,f x))) (.str n)=(l.find? fun x=>decide (k x=n)).map f
 |[]=>rfl
 |x::r=>by
  have ih:=a5d k f n r;unfold k8 kd at ih⊢;rw[map_cons,map_cons,List.find?_cons,List.find?_cons]
  by_cases e:k x=n
  · simp[e]
  · have e':¬(D.str (k x)=D.str n):=fun z=>e (by injection z)
    simp only[e,e',decide_false];exact ih
theorem a2w{k:α->Str}{n:Str}{l:List α}(h:n∈l.map k):∃x∈l,(l.find? fun x=>decide (k x=n))=some x/\k x=n:=by
 cases e:l.find? fun x=>decide (k x=n) with
 |none=>
  obtain⟨x,hx,rfl⟩:=ak.mp h
  have:=bz.mp e x hx
  simp at this
 |some x=>exact⟨x,List.mem_of_find?_eq_some e,rfl,by simpa using List.find?_some e⟩
theorem c0V(e:h[n]? =some (.dict (kd (sh.map fun p=>(p.1,.int (p.2:Int))))))(hx:x∈sh.map (·.1)):ixD h (.ref n) (.str x)=.ok (.int (wOf sh x)) h:=by
 have k:z7 (.str x) (kd (sh.map fun p=>(p.1,D.int (p.2:Int))))=true:=W5 _ _
 obtain⟨p,_,e1,_⟩:=a2w hx;have g:=a5d (fun p:Str×Nat=>p.1) (fun p=>D.int (p.2:Int)) x sh
 rw[e1] at g;simp only[ixD,e,k,if_true,g];unfold wOf;rw[e1];rfl
noncomputable def y0(a b:Int×Int):Int×Int:=(a.1+b.1,a.2+b.2)
noncomputable def a5T(a b:Int×Int):Int×Int:=(a.1-b.1,a.2-b.2)
noncomputable def o9(mr:List Mk)(n:Str):Mk:=(mr.find? fun m=>decide (m.n=n)).getD ⟨n,"above",(0,0),(0,0)⟩
variable{mr:List Mk}
theorem a8b(e:h[n]? =some (.dict (kd (hM mr))))(hx:x∈mr.map (·.n)):o9 mr x∈mr/\ixD h (.ref n) (.str x)=.ok (.tup [.str (o9 mr x).s,spD (o9 mr x).a,spD (o9 mr x).b]) h:=by
 have k:z7 (.str x) (kd (hM mr))=true:=W5 _ _
 obtain⟨p,hp,e1,_⟩:=a2w hx
 have g:k8 (kd (hM mr)) (.str x)=_:=a5d (fun m:Mk=>m.n) (fun m=>D.tup [.str m.s,spD m.a,spD m.b]) x mr
 rw[e1] at g;unfold o9;rw[e1];refine⟨hp,?_⟩
 simp only[ixD,e,k,if_true,g];rfl
noncomputable def G5(pt:List Pt)(n s:Str):Option (Int×Int):=(pt.find? fun p=>decide (ptK p=(n,s))).map (·.a)
theorem a5c(n s:Str):∀pt:List Pt,k8 (pd (hP pt)) (.tup [.str n,.str s])=(G5 pt n s).map spD
 |[]=>rfl
 | p ::r=>by
  have ih:=a5c n s r;unfold k8 pd hP G5 at ih⊢;rw[map_cons,map_cons,List.find?_cons,List.find?_cons]
  by_cases e:ptK p=(n,s)
  · have e':D.tup [.str (ptK p).1,.str (ptK p).2]=D.tup [.str n,.str s]:=by rw[e]
    simp only[e,e',decide_true];rfl
  · have e':¬(D.tup [.str (ptK p).1,.str (ptK p).2]=D.tup [.str n,.str s]):=fun z=>e (by
     injection z with z
     injection z with z1 z
     injection z with z2
     injection z1 with z1
     injection z2 with z2
     exact Prod.ext z1 z2)
    simp only[e,e',decide_false];exact ih
def Y5(pt:List Pt)(n:Str):List (Str×D):=([("above":Str),"below"].filter fun s=>(G5 pt n s).isSome).map fun s=>(s,spD ((G5 pt n s).getD (0,0)))
theorem b3l(pt:List Pt)(n:Str){s:Str}(hs:U3 s):k8 (kd (Y5 pt n)) (.str s)=(G5 pt n s).map spD:=by
 have g:k8 (kd (Y5 pt n)) (.str s)=_:=a5d (fun s:Str=>s) (fun s=>spD ((G5 pt n s).getD (0,0))) s ([("above":Str),"below"].filter fun s=>(G5 pt n s).isSome)
 rw[g]
 cases e:G5 pt n s with
 | none=>
  rw[bz.mpr fun x hx=>by
   obtain⟨_,b⟩:=bq.mp hx;intro z;rw[aw z,e] at b;cases b]
  rfl
 |some a=>
  have:s∈[("above":Str),"below"].filter fun s=>(G5 pt n s).isSome:=bq.mpr ⟨by rcases hs with rfl|rfl<;>simp,by rw[e];rfl⟩
  obtain⟨x,_,e1,e2⟩:=a2w (k:=fun s:Str=>s) (n:=s) (l:=[("above":Str),"below"].filter fun s=>(G5 pt n s).isSome) (by simpa using this)
  rw[e1]
  replace e2:x=s:=e2
  rw[e2,Option.map_some,e];rfl
def E4(a b:Int×Int):List (D×D):=kd [("above",spD a),("below",spD b)]
theorem b5l{i j:Int}:op2 .sub h (.int i) (.int j)=.ok (.int (i-j)) h:=rfl
theorem sp0{p:Int×Int}:ixD h (spD p) (.int 0)=.ok (.int p.1) h:=ix_tup (i:=0) rfl
theorem sp1{p:Int×Int}:ixD h (spD p) (.int 1)=.ok (.int p.2) h:=ix_tup (i:=1) rfl
theorem a5l{l:List (Str×D)}(nd:(l.map (·.1)).Nodup):biD .dict (h++[.lst (l.map fun p=>D.tup [.str p.1,p.2])]) [.ref h.length]=.ok (.ref (h++[Cell.lst (l.map fun p=>D.tup [.str p.1,p.2])]).length) (h++[.lst (l.map fun p=>D.tup [.str p.1,p.2])]++[.dict (kd l)]):=by
 have pr:∀l:List (Str×D),a5U (l.map fun p=>D.tup [.str p.1,p.2])=some (kd l):=fun l=>by
  induction l with
  |nil=>rfl
  |cons p r ih=>rw[map_cons,a5U,ay (show(E9 (D.str p.1)).isSome=true from rfl),ih];rfl
 have put:∀r pre:List (Str×D),((pre++r).map (·.1)).Nodup->(kd r).foldl (fun a p=>a0K a p.1 p.2) (kd pre)=kd (pre++r):=fun r=>by
  induction r with
  |nil=>intro pre _;rw[bh];rfl
  |cons p r ih=>
   intro pre h
   have hp:p.1∉pre.map (·.1):=M4 (f:=fun q:Str×D=>q.1) h rfl
   rw[show kd (p::r)=(.str p.1,p.2)::kd r from rfl,foldl_cons]
   show List.foldl _ (a0K (kd pre) (.str p.1) p.2) (kd r)=_
   rw[b0w hp,ih (pre++[(p.1,p.2)]) (by rw[aA];exact h),aA]
   rfl
 simp only[biD,b6,a0l,pr,o5];rw[show(kd l).foldl (fun a p=>a0K a p.1 p.2) []=kd l from put l [] nd]
variable{ds:List D}
section
variable{F:Nat->Option Fn}
theorem a8t{a k x:E}:ev ct c (.dget a k x) env h=(ev ct c a env h).bind fun o h1=>if a7g h1 o=true then(ev ct c k env h1).bind fun y h2=>(ev ct c x env h2).bind fun z h3=>a3e h3 o y z else .no:=by(rw[ev];try rfl)
theorem a8r:evi ct c (.gsq ds) env h=.ok (ds,[]) h:=by(rw[evi];try rfl)
theorem a7S{k:Nat}{a b:Int×Int}(hF:F 40=some a0R):b0 ct F (k+1) 40 [spD a,spD b] h=.ok (spD (y0 a b)) h:=by
 rw[i6 hF rfl];simp only[a0R];simp_arith[sp0,sp1,b9Y];exact K2 rfl
theorem b1b{k:Nat}{a b:Int×Int}(hF:F 41=some a0s):b0 ct F (k+1) 41 [spD a,spD b] h=.ok (spD (a5T a b)) h:=by
 rw[i6 hF rfl];simp only[a0s];simp_arith[sp0,sp1,b5l];exact K2 rfl
theorem b5P{k:Nat}{H:HL}(hF:F 38=some J5)(A:HallAt h n (a0a H)):b0 ct F (k+1) 38 [.ref n,.str x] h=.ok (.ref h.length) (h++[.dict (kd (Y5 H.pt x))]):=by
 have c3:h[n+3]? =some (.dict (pd (hP H.pt))):=A.c3
 have kk:∀s,z7 (.tup [.str x,.str s]) (pd (hP H.pt))=true:=fun s=>a2v _ _ _
 rw[i6 hF rfl];simp only[J5]
 have cm:ev ct (b0 ct F k) (.comp (.nm 0) (.gsq [(.str "above"),(.str "below")]) 1 [0,1] (.cmp .isin (.tup (.cons (.v 2) (.o (.v 0)))) (.fld (.v 1) "points")) (.tup (.cons (.v 0) (.o (.ix (.fld (.v 1) "points") (.tup (.cons (.v 2) (.o (.v 0))))))))) [~~~n,some (.str x)] h=.ok (.ref h.length) (h++[.lst ((Y5 H.pt x).map fun p=>D.tup [.str p.1,p.2])]):=by
  rw [Q9 (l:=[("above":Str),"below"].map .str) (g:=[]) (h1:=h) (by rw[a8r];rfl) rfl (fun d=>match d with
   |.str s=>(G5 H.pt x s).isSome
   |_=>false) (fun d=>match d with
   |.str s=>.tup [.str s,spD ((G5 H.pt x s).getD (0,0))]
   |_=>.non) (fun d=>[some d,~~~n,some (.str x)]) (fun d hd=>by
   obtain⟨s,_,rfl⟩:=ak.mp hd
   have i1:V9 false h (.tup [.str x,.str s]) (.ref (n+3))=.ok (.bl (G5 H.pt x s).isSome) h:=by
    simp only[V9,c3,kk,if_true,a5c,Option.isSome_map]
    cases (G5 H.pt x s).isSome<;>rfl
   refine⟨rfl,?_,fun hs=>?_⟩
   · simp_arith[A.fld3,op2,i1]
   · obtain⟨a,ha⟩:=Option.isSome_iff_exists.mp hs
     have i2:ixD h (.ref (n+3)) (.tup [.str x,.str s])=.ok (spD a) h:=by
      simp only[ixD,c3,kk,if_true,a5c,ha,Option.map_some]
     simp_arith[A.fld3,i2,ha]
     rfl) (show 2<=16777216 by decide)]
  congr 3;unfold Y5;rw[List.filter_map,aH,aH];rfl
 simp_arith[cm]
 rw[a5l (by
  unfold Y5;rw[a1D,List.map_id'];exact List.Sublist.nodup List.filter_sublist (by decide))]
 show gcR 2 h (.ok _ _)=_
 exact a2d (((Pf.refl h).app _).app _) b6 (by rw[ao];omega) (by
  show(kd (Y5 H.pt x)).all (fun p=>p.1.flat&&p.2.flat)=true
  unfold kd Y5;rw[aH];refine bu.mpr fun p hp=>?_
  obtain⟨s,_,rfl⟩:=ak.mp hp
  rfl)
theorem a8o{k d:Nat}{p:Int×Int}{l:List (Str×D)}{q:Str->Option (Int×Int)}(f40:F 40=some a0R)(hF:F 39=some O7)(hd:h[d]? =some (.dict (kd l)))(hq:∀s,U3 s->k8 (kd l) (.str s)=(q s).map spD):b0 ct F (k+2) 39 [spD p,.ref d] h=.ok (.ref h.length) (h++[.dict (E4 (y0 p ((q "above").getD (0,0))) (y0 p ((q "below").getD (0,0))))]):=by
 have kk:∀s,z7 (.str s) (kd l)=true:=fun s=>W5 _ _
 have dc:a7g h (.ref d)=true:=by simp only[a7g,hd]
 rw[i6 hF rfl];simp only[O7];obtain⟨L0,hL⟩:∃L0:List (Str×D),L0=[("above":Str),"below"].map fun s=>(s,spD (y0 p ((q s).getD (0,0)))):=⟨_,rfl⟩
 have cm:ev ct (b0 ct F (k+1)) (.comp (.nm 0) (.gsq [(.str "above"),(.str "below")]) 1 [1,0] .yes (.tup (.cons (.v 0) (.o (.call 40 (.cons (.v 2) (.o (.dget (.v 1) (.v 0) (.tup (.cons (.i 0) (.o (.i 0)))))))))))) [some (spD p),~~~d] h=.ok (.ref h.length) (h++[.lst (L0.map fun p=>D.tup [.str p.1,p.2])]):=by
  rw[hL,v7 (l:=[("above":Str),"below"].map .str) (g:=[]) (h1:=h) (by rw[a8r];rfl) rfl (fun d=>match d with
   |.str s=>.tup [.str s,spD (y0 p ((q s).getD (0,0)))]
   |_=>.non) (fun x=>[some x,~~~d,some (spD p)]) (fun x hx=>by
   obtain⟨s,hs,rfl⟩:=ak.mp hx
   have so:U3 s:=by
    rcases aE.mp hs with rfl|hs
    · exact .inl rfl
    · rw[aP.mp hs];exact .inr rfl
   have g:a3e h (.ref d) (.str s) (.tup [.int 0,.int 0])=.ok (spD ((q s).getD (0,0))) h:=by
    have:(E9 (.str s)).isSome=true:=rfl
    simp only[a3e,hd,kk,this,Bool.and_self,if_true,hq s so]
    cases q s<;>rfl
   refine⟨rfl,?_⟩
   simp_arith[a8t,dc,g,a7S f40]) (show 2<=16777216 by decide)]
  rfl
 simp_arith[cm];rw[a5l (by rw[hL,a1D,List.map_id'];decide)]
 show gcR 2 h (.ok _ _)=_
 rw[a2d (((Pf.refl h).app _).app _) b6 (by rw[ao];omega) (by rw[hL];rfl),hL]
 rfl
end
theorem b8O{P:List Nat}(nd:P.Nodup){i:Nat}(hi:i<P.length)(hj:j<P.length)(e:P[i]=P[j]):i=j:=by
 rcases Nat.lt_trichotomy i j with h|h|h
 · exact absurd e (List.pairwise_iff_getElem.mp nd i j hi hj h)
 · exact h
 · exact absurd e.symm (List.pairwise_iff_getElem.mp nd j i hj hi h)
def plc(mk:List Str)(cs:List Ce)(ws:List Str)(way:Str):List Nat:=(a1R way (r8 (sdB mk cs ws) (J8 mk cs).length)).map fun i=>(J8 mk cs).getD i 0
theorem b0f:a3G mk cs ws way=(plc mk cs ws way).map fun p:Nat=>D.int (p:Int):=by
 unfold a3G plc;rw[aH];rfl
theorem a2K:(plc mk cs ws way).Perm (J8 mk cs):=by
 have e:(List.range (J8 mk cs).length).map (fun i=>(J8 mk cs).getD i 0)=J8 mk cs:=ext_getElem? fun i=>by
  by_cases hi:i<(J8 mk cs).length
  · rw[aj,aJ hi,af hi,Option.map_some,bA,af hi]
    rfl
  · rw[aZ (by simp;omega),aZ (by omega)]
 have:=(a5W (sd:=sdB mk cs ws) (n:=(J8 mk cs).length) (way:=way)).map fun i=>(J8 mk cs).getD i 0
 rw[e] at this;exact this
theorem b5V:(plc mk cs ws way).Nodup:=a2K.nodup_iff.mpr (List.Sublist.nodup List.filter_sublist nodup_range)
theorem a6Q{p:Nat}:p∈plc mk cs ws way↔p<cs.length/\isB mk cs p=true:=by
 rw[a2K.mem_iff];unfold J8 n4;rw[bq,aO]
noncomputable def cnA(cs:List Ce)(p:Nat):Str:=match cs[p]? with
 |some c=>c.n
 |none=>""
section
variable(sh:List (Str×Nat))(cs:List Ce)(P:List Nat)
def xsA(i:Nat):Int:=((P.take i).map fun p=>wOf sh (cnA cs p)).sum
def spL(j:Nat):List (D×D):=(List.range j).map fun i=>(D.int (P.getD i 0:Int),spD (xsA sh cs P i,0))
def J3(j:Nat):Option (Int×Int):=((List.range P.length).find? fun i=>decide (P.getD i 0=j)).map fun i=>(xsA sh cs P i,0)
theorem a9G{i:Nat}(hi:i<P.length):xsA sh cs P (i+1)=xsA sh cs P i+wOf sh (cnA cs (P.getD i 0)):=by
 unfold xsA;rw[take_succ_eq_append_getElem hi,al,sum_append,bA,af hi]
 simp
theorem a7l(j n:Nat):k8 (spL sh cs P n) (.int (j:Int))=((List.range n).find? fun i=>decide (P.getD i 0=j)).map fun i=>spD (xsA sh cs P i,0):=by
 unfold k8 spL;rw[List.find?_map,Option.map_map]
 congr 1;congr 1
 funext i
 show decide (D.int (P.getD i 0:Int)=D.int (j:Int))=decide (P.getD i 0=j)
 refine decide_eq_decide.mpr ⟨fun z=>by injection z with z;omega,fun z=>by rw[z]⟩
theorem a4v(j n:Nat):z7 (.int (j:Int)) (spL sh cs P n)=true:=by
 unfold z7 spL;rw[ae];refine⟨rfl,bu.mpr fun p hp=>?_⟩
 obtain⟨i,_,rfl⟩:=ak.mp hp;rfl
theorem a3E:(J3 sh cs P j).isSome=decide (j∈P):=by
 unfold J3;rw[Option.isSome_map]
 by_cases h:j∈P
 · rw[bm h,List.find?_isSome]
   obtain⟨i,hi,e⟩:=List.getElem_of_mem h;exact⟨i,aO.mpr hi,bm (by rw[bA,af hi];exact e)⟩
 · rw[bB h]
   cases e:(List.range P.length).find? fun i=>decide (P.getD i 0=j) with
   |none=>rfl
   |some i=>
    have hi:=aO.mp (List.mem_of_find?_eq_some e)
    have e2:P.getD i 0=j:=by simpa using List.find?_some e
    rw[bA,af hi] at e2
    exact absurd (by rw[←e2];exact bw hi) h
variable(mr:List Mk)(pt:List Pt)
def S9(j:Nat)(f:(Int×Int)×(Int×Int)):(Int×Int)×((Int×Int)×(Int×Int)):=match J3 sh cs P j with
 |some s=>(s,(y0 s ((G5 pt (cnA cs j) "above").getD (0,0)),y0 s ((G5 pt (cnA cs j) "below").getD (0,0))))
 |none=>if(o9 mr (cnA cs j)).s="above" then(a5T f.1 (o9 mr (cnA cs j)).a,(y0 (a5T f.1 (o9 mr (cnA cs j)).a) (o9 mr (cnA cs j)).b,f.2)) else(a5T f.2 (o9 mr (cnA cs j)).a,(f.1,y0 (a5T f.2 (o9 mr (cnA cs j)).a) (o9 mr (cnA cs j)).b))
def Q7:Nat->(Int×Int)×(Int×Int)
 |0=>(y0 (0,0) (0,0),y0 (0,0) (0,0))
 |j+1=>(S9 sh cs P mr pt j (Q7 j)).2
def G4(j:Nat):Int×Int:=(S9 sh cs P mr pt j (Q7 sh cs P mr pt j)).1
end
theorem b4s{a b:Int×Int}(e:h[n]? =some (.dict (E4 a b))):ixD h (.ref n) (.str "above")=.ok (spD a) h/\ixD h (.ref n) (.str "below")=.ok (spD b) h/\(∀v,Q2 h (.ref n) (.str "above") (spD v)=.ok () (h.set n (.dict (E4 v b))))/\∀v,Q2 h (.ref n) (.str "below") (spD v)=.ok () (h.set n (.dict (E4 a v))):=by
 have k1:∀s,z7 (.str s) (E4 a b)=true:=fun s=>W5 _ _
 refine⟨?_,?_,fun v=>?_,fun v=>?_⟩
 · simp only[ixD,e,k1,if_true];rfl
 · simp only[ixD,e,k1,if_true];rfl
 · simp only[Q2,e,k1];rw[ay ⟨trivial,show 2<16777216 by decide⟩]
   rfl
 · simp only[Q2,e,k1];rw[ay ⟨trivial,show 2<16777216 by decide⟩]
   rfl
section
variable{F:Nat->Option Fn}
theorem a9Y{k o:Nat}{H:HL}{P:List Nat}(hF:F 37=some G2)(A:HallAt h n (a0a H))(hw:h[w]? =some (.lst (cs.map ceD)))(ho:h[o]? =some (.lst (P.map fun p:Nat=>D.int (p:Int))))(nd:P.Nodup)(hP:∀p∈P,p<cs.length)(hc:∀c∈cs,c.n∈H.sh.map (·.1))(hl:P.length<=1000):b0 ct F (k+1) 37 [.ref n,.ref w,.ref o] h=.ok (.ref h.length) (h++[.dict (spL H.sh cs P P.length)]):=by
 rw[i6 hF rfl];simp only[G2]
 show gcR 2 h (Q4 (exs ct (b0 ct F k) _ [~~~n,~~~w,~~~o,none,none,none] h))=_
 rw[seq (env':=[~~~n,~~~w,~~~o,~~~h.length,none,none]) (h':=h++[.dict []]) (by simp_arith[o5])]
 rw[seq (env':=[~~~n,~~~w,~~~o,~~~h.length,some (.int 0),none]) (h':=h++[.dict []]) (by simp_arith[])]
 obtain⟨env',g',e1,e5,rfl,rfl⟩:=B6 (g:=[(o,.lst (P.map fun p:Nat=>D.int (p:Int)))]) (p:=.nm 5) (body:=exs ct (b0 ct F k) bsB) (fun j env hh=>∃e5,env=[~~~n,~~~w,~~~o,~~~h.length,some (.int (xsA H.sh cs P j)),e5]/\hh=h++[.dict (spL H.sh cs P j)]) (fun j env hh hP=>by
  obtain⟨_,_,rfl⟩:=hP;simp only[gOk,all_cons,all_nil,b5 ho]
  simp) (P.map fun p:Nat=>D.int (p:Int)) 0 [~~~n,~~~w,~~~o,~~~h.length,some (.int 0),none] (h++[.dict []]) (fun j x env hh hx hQ=>by
  obtain⟨e5,rfl,rfl⟩:=hQ;rw[aj] at hx
  obtain⟨p,hp,rfl⟩:=Option.map_eq_some_iff.mp hx;have hj:=(ac.mp hp).1
  have gp:P.getD j 0=p:=by rw[bA,hp];rfl
  have pm:=aG hp;have pl:=hP p pm;rw[aB];have A1:=A.app [.dict (spL H.sh cs P j)]
  have nn:cnA cs p=cs[p].n:=by unfold cnA;rw[af pl]
  have i1:ixD (h++[.dict (spL H.sh cs P (j+1))]) (.ref w) (.int (p:Int))=.ok (ceD cs[p]) (h++[.dict (spL H.sh cs P (j+1))]):=B9 (b5 hw) (by rw[aj,af pl];rfl)
  have A2:=A.app [.dict (spL H.sh cs P (j+1))]
  have i2:ixD (h++[.dict (spL H.sh cs P (j+1))]) (.ref (n+1)) (.str cs[p].n)=.ok (.int (wOf H.sh cs[p].n)) (h++[.dict (spL H.sh cs P (j+1))]):=c0V A2.c1 (hc _ (bw pl))
  have st:Q2 (h++[.dict (spL H.sh cs P j)]) (.ref h.length) (.int (p:Int)) (.tup [.int (xsA H.sh cs P j),.int 0])=.ok () (h++[.dict (spL H.sh cs P (j+1))]):=by
   have nw:k8 (spL H.sh cs P j) (.int (p:Int))=none:=by
    rw[a7l,bz.mpr fun i hi=>?_]
    · rfl
    · have hi:=aO.mp hi;intro z
      have z:P.getD i 0=p:=aw z
      rw[bA,af (show i<P.length by omega)] at z
      have:=(ac.mp hp).2
      have:i=j:=b8O nd (by omega) hj (z.trans this.symm)
      omega
   have na:((spL H.sh cs P j).any fun q=>decide (q.1=.int (p:Int)))=false:=by
    unfold k8 at nw
    have:=bz.mp (Option.map_eq_none_iff.mp nw)
    exact List.any_eq_false.mpr this
   simp only[Q2,b6];rw[ay ⟨a4v _ _ _ _ _,by show(spL H.sh cs P j).length<16777216;unfold spL;rw[aa,aI];omega⟩,a7C]
   unfold a0K;rw[na,az (by decide)]
   unfold spL;rw[bx,al,map_cons,map_nil,gp];rfl
  refine⟨_,[~~~n,~~~w,~~~o,~~~h.length,some (.int (xsA H.sh cs P (j+1))),p⁻¹],_,rfl,?_,_,rfl,rfl⟩
  show exs ct (b0 ct F k) bsB [~~~n,~~~w,~~~o,~~~h.length,some (.int (xsA H.sh cs P j)),p⁻¹] _=_
  rw[a9G _ _ _ hj,gp,nn];unfold bsB;simp_arith[st,A2.fld1,i1,ce0,i2,b9Y]) ⟨none,rfl,rfl⟩
 rw[aa,aB] at e1;rw[seq (env':=_) (h':=h++[.dict (spL H.sh cs P P.length)]) (by simp_arith[V6,b5 (g:=[.dict []]) ho,e1];rfl)]
 simp_arith[];refine gc2 b6 (ai _) ?_
 show(spL H.sh cs P P.length).all (fun p=>p.1.flat&&p.2.flat)=true
 unfold spL;refine bu.mpr fun p hp=>?_
 obtain⟨i,_,rfl⟩:=ak.mp hp;rfl
theorem b3U {k v:Nat} {H:HL} (f33:F 33=some F0) (f34:F 34=some F6) (f35:F 35=some G1) (hF:F 36=some a3b) (f37:F 37=some G2) (f38:F 38=some J5) (f39:F 39=some O7) (f40:F 40=some a0R) (f41:F 41=some a0s) (K:HLok H) (A:HallAt h n (a0a H)) (C:Ch cs) (hw:h[w]? =some (.lst (cs.map ceD))) (hv:h[v]? =some (.lst (ws.map .str))) (hs:ws.length=M1 cs) (hr:∀w∈ws,Lr w) (hl:cs.length<=63) (hc:∀c∈cs,c.n∈H.sh.map (·.1)):
 b0 ct F (k+4) 36 [.ref n,.ref w,.ref v,.str way] h=.ok (.ref h.length) (h++[.lst ((List.range cs.length).map fun j=>spD (G4 H.sh cs (plc (H.mr.map (·.n)) cs ws way) H.mr H.pt j))]):=by
 have se:=b3f (ct:=ct) (k:=k) (way:=way) f33 f34 f35 A C hw hv hs hr hl;rw[b0f] at se
 have pn:(plc (H.mr.map (·.n)) cs ws way).Nodup:=b5V
 have pi:∀p,p∈plc (H.mr.map (·.n)) cs ws way↔p<cs.length/\isB (H.mr.map (·.n)) cs p=true:=fun p=>a6Q
 have pl:(plc (H.mr.map (·.n)) cs ws way).length<=63:=by
  rw[(a2K (mk:=H.mr.map (·.n)) (cs:=cs) (ws:=ws) (way:=way)).length_eq]
  have:=a4m (mk:=H.mr.map (·.n)) (cs:=cs)
  omega
 generalize plc (H.mr.map (·.n)) cs ws way=P at se pn pi pl
 have sp:=a9Y (ct:=ct) (k:=k+2) f37 (A.app [.lst (P.map fun p:Nat=>D.int (p:Int))]) (b5 hw) (b6 (h:=h) (c:=.lst (P.map fun p:Nat=>D.int (p:Int)))) pn (fun p hp=>((pi p).mp hp).1) hc (by omega)
 have l1:(h++[Cell.lst (P.map fun p:Nat=>D.int (p:Int))]).length=h.length+1:=by simp
 rw[l1] at sp
 have aS:(h++[Cell.lst (P.map fun p:Nat=>D.int (p:Int))]++[Cell.dict (spL H.sh cs P P.length)])[h.length+1]? =some (.dict (spL H.sh cs P P.length)):=by rw[←l1];exact b6
 have P1:Pf h (h++[Cell.lst (P.map fun p:Nat=>D.int (p:Int))]++[Cell.dict (spL H.sh cs P P.length)]):=((Pf.refl h).app _).app _
 have l2:(h++[Cell.lst (P.map fun p:Nat=>D.int (p:Int))]++[Cell.dict (spL H.sh cs P P.length)]).length=h.length+2:=by simp
 generalize h++[Cell.lst (P.map fun p:Nat=>D.int (p:Int))]++[Cell.dict (spL H.sh cs P P.length)]=x1 at sp aS P1 l2
 have ft:=a8o (ct:=ct) (F:=F) (k:=k+1) (p:=(0,0)) (l:=[]) (q:=fun _=>none) (h:=x1++[.dict []]) f40 f39 (b6 (h:=x1) (c:=.dict [])) (fun s _=>rfl)
 have l3:(x1++[Cell.dict []]).length=h.length+3:=by rw[ao,l2];rfl
 rw[l3,l2] at ft;simp only[Option.getD_none] at ft
 have aF:(x1++[Cell.dict []]++[Cell.dict (E4 (y0 (0,0) (0,0)) (y0 (0,0) (0,0)))])[h.length+3]? =some (.dict (E4 (y0 (0,0) (0,0)) (y0 (0,0) (0,0)))):=by rw[←l3];exact b6
 replace aS:=b5 (g:=[Cell.dict (E4 (y0 (0,0) (0,0)) (y0 (0,0) (0,0)))]) (b5 (g:=[Cell.dict []]) aS)
 replace P1:=(P1.app [Cell.dict []]).app [Cell.dict (E4 (y0 (0,0) (0,0)) (y0 (0,0) (0,0)))]
 have l4:(x1++[Cell.dict []]++[Cell.dict (E4 (y0 (0,0) (0,0)) (y0 (0,0) (0,0)))]).length=h.length+4:=by rw[ao,l3];rfl
 generalize hx2:x1++[Cell.dict []]++[Cell.dict (E4 (y0 (0,0) (0,0)) (y0 (0,0) (0,0)))]=x2 at ft aF aS P1 l4;rw[i6 hF rfl];simp only[a3b]
 show gcR 2 h (Q4 (exs ct (b0 ct F (k+3)) _ [~~~n,~~~w,~~~v,some (.str way),none,none,none,none,none,none,none] h))=_
 rw[seq (env':=[~~~n,~~~w,~~~v,some (.str way),some (.ref (h.length+1)),none,none,none,none,none,none]) (h':=x1) (by simp_arith[se,sp])]
 rw[seq (env':=[~~~n,~~~w,~~~v,some (.str way),some (.ref (h.length+1)),some (.ref (h.length+3)),none,none,none,none,none]) (h':=x2) (by simp_arith[o5,l2,show D.tup [.int 0,.int 0]=spD (0,0) from rfl,ft])]
 rw[seq (env':=[~~~n,~~~w,~~~v,some (.str way),some (.ref (h.length+1)),some (.ref (h.length+3)),some (.ref (h.length+4)),none,none,none,none]) (h':=x2++[.lst []]) (by simp_arith[o5,l4])]
 have aT:(x2++[Cell.lst []])[h.length+4]? =some (.lst []):=by rw[←l4];exact b6
 obtain ⟨env',g',e1,f,e7,e8,e9,e10,rfl,q1,q2,q3,q4,q5⟩:=B6 (g:=[(w,.lst (cs.map ceD))]) (p:=.tp (.cons (.nm 7) (.cons (.nm 8) .nil))) (body:=exs ct (b0 ct F (k+3)) laB) (fun j env hh=>∃(f:Nat) (e7 e8 e9 e10:Option D),env=[~~~n,~~~w,~~~v,some (.str way),some (.ref (h.length+1)),~~~f,some (.ref (h.length+4)),e7,e8,e9,e10]/\Pf h hh/\hh[h.length+1]? =some (.dict (spL H.sh cs P P.length))/\hh[h.length+4]? =some (.lst ((List.range j).map fun j=>spD (G4 H.sh cs P H.mr H.pt j)))/\hh[f]? =some (.dict (E4 (Q7 H.sh cs P H.mr H.pt j).1 (Q7 H.sh cs P H.mr H.pt j).2))/\(h.length<=f/\f≠h.length+1/\f≠h.length+4)) (fun j env hh hP=>by
  obtain⟨_,_,_,_,_,_,P,_⟩:=hP;simp only[gOk,all_cons,all_nil,P.at hw]
  simp) (x4 0 (cs.map ceD)) 0 [~~~n,~~~w,~~~v,some (.str way),some (.ref (h.length+1)),some (.ref (h.length+3)),some (.ref (h.length+4)),none,none,none,none] (x2++[.lst []]) (fun j x env hh hx hP=>by
  obtain⟨f,e7,e8,e9,e10,rfl,p1,p2,p3,p4,p5,p6,p7⟩:=hP;obtain⟨y,hy,rfl⟩:=X3 hx;rw[aj] at hy
  obtain⟨c,hm,rfl⟩:=Option.map_eq_some_iff.mp hy;have hj:=(ac.mp hm).1
  rw[aB] at p3 p4⊢
  have nn:cnA cs j=c.n:=by unfold cnA;rw[hm]
  have hA:∀{x:AH},Pf h x->HallAt x n (a0a H):=fun{x} P=>by
   have:x=h++x.drop h.length:=by
    have:=take_append_drop h.length x
    rw[P.take] at this;exact this.symm
   rw[this];exact A.app _
  have t6:((List.range j).map fun j=>spD (G4 H.sh cs P H.mr H.pt j)).length<1000000:=by rw[aa,aI];omega
  have inS:op2 .isin hh (.int (j:Int)) (.ref (h.length+1))=.ok (.bl (J3 H.sh cs P j).isSome) hh:=by
   show V9 false hh (.int (j:Int)) (.ref (h.length+1))=_
   simp only[V9,p2,a4v,if_true,a7l];unfold J3;rw[Option.isSome_map,Option.isSome_map]
   cases ((List.range P.length).find? fun i=>decide (P.getD i 0=j)).isSome<;>rfl
  have rs:∀{s:Int×Int},G4 H.sh cs P H.mr H.pt j=s->((List.range j).map fun j=>spD (G4 H.sh cs P H.mr H.pt j))++[spD s]=(List.range (j+1)).map fun j=>spD (G4 H.sh cs P H.mr H.pt j):=fun e=>by
   rw[bx,al,←e];rfl
  cases so:J3 H.sh cs P j with
  | some s=>
   have ta:G4 H.sh cs P H.mr H.pt j=s:=by unfold G4 S9;rw[so]
   have fa:Q7 H.sh cs P H.mr H.pt (j+1)=(y0 s ((G5 H.pt c.n "above").getD (0,0)),y0 s ((G5 H.pt c.n "below").getD (0,0))):=by
    show(S9 H.sh cs P H.mr H.pt j _).2=_
    unfold S9;rw[so,nn]
   have ix:ixD hh (.ref (h.length+1)) (.int (j:Int))=.ok (spD s) hh:=by
    have g:=a7l H.sh cs P j P.length;unfold J3 at so
    cases e:(List.range P.length).find? fun i=>decide (P.getD i 0=j) with
    |none=>rw[e] at so;cases so
    |some i=>
     rw[e] at so g;simp only[ixD,p2,a4v,if_true,g];rw[←ax so];rfl
   have po:=b5P (ct:=ct) (F:=F) (k:=k+2) (x:=c.n) (h:=hh) f38 (hA p1);have fo:=a8o (ct:=ct) (F:=F) (k:=k+1) (p:=s) (q:=fun t=>G5 H.pt c.n t) (h:=hh++[.dict (kd (Y5 H.pt c.n))]) f40 f39 (b6 (h:=hh) (c:=.dict (kd (Y5 H.pt c.n)))) (fun t ht=>b3l H.pt c.n ht)
   have b3:=b5 (g:=[Cell.dict (E4 (y0 s ((G5 H.pt c.n "above").getD (0,0))) (y0 s ((G5 H.pt c.n "below").getD (0,0))))]) (b5 (g:=[Cell.dict (kd (Y5 H.pt c.n))]) p3);have b2:=b5 (g:=[Cell.dict (E4 (y0 s ((G5 H.pt c.n "above").getD (0,0))) (y0 s ((G5 H.pt c.n "below").getD (0,0))))]) (b5 (g:=[Cell.dict (kd (Y5 H.pt c.n))]) p2)
   have b4:(hh++[Cell.dict (kd (Y5 H.pt c.n))]++[Cell.dict (E4 (y0 s ((G5 H.pt c.n "above").getD (0,0))) (y0 s ((G5 H.pt c.n "below").getD (0,0))))])[(hh++[Cell.dict (kd (Y5 H.pt c.n))]).length]? =some (.dict (E4 (Q7 H.sh cs P H.mr H.pt (j+1)).1 (Q7 H.sh cs P H.mr H.pt (j+1)).2)):=by rw[fa];exact b6
   have Q:=(p1.app [Cell.dict (kd (Y5 H.pt c.n))]).app [Cell.dict (E4 (y0 s ((G5 H.pt c.n "above").getD (0,0))) (y0 s ((G5 H.pt c.n "below").getD (0,0))))]
   have ll:h.length+4<(hh++[Cell.dict (kd (Y5 H.pt c.n))]).length:=by
    have:=(ac.mp p3).1
    rw[ao];omega
   generalize hy:hh++[Cell.dict (kd (Y5 H.pt c.n))]++[Cell.dict (E4 (y0 s ((G5 H.pt c.n "above").getD (0,0))) (y0 s ((G5 H.pt c.n "below").getD (0,0))))]=y at fo b2 b3 b4 Q;generalize (hh++[Cell.dict (kd (Y5 H.pt c.n))]).length=fr at fo b4 ll;refine⟨_,[~~~n,~~~w,~~~v,some (.str way),some (.ref (h.length+1)),~~~fr,some (.ref (h.length+4)),j⁻¹,some (ceD c),some (spD s),e10],y.set (h.length+4) (.lst ((List.range (j+1)).map fun j=>spD (G4 H.sh cs P H.mr H.pt j))),rfl,?_,fr,_,_,_,_,rfl,Q.set (by omega),b7 (by omega) b2,x5 b3,b7 (by omega) b4,by omega,by omega,by omega⟩
   show exs ct (b0 ct F (k+3)) laB [~~~n,~~~w,~~~v,some (.str way),some (.ref (h.length+1)),~~~f,some (.ref (h.length+4)),j⁻¹,some (ceD c),e9,e10] hh=_
   rw[so] at inS;unfold laB laA;rw[seq (env':=[~~~n,~~~w,~~~v,some (.str way),some (.ref (h.length+1)),~~~fr,some (.ref (h.length+4)),j⁻¹,some (ceD c),some (spD s),e10]) (h':=y) (by simp_arith[inS,Option.isSome_some,ix,ce0,po,fo])]
   simp_arith[C7 b3,K9 b3 t6,rs ta]
  | none=>
   have nb:isB (H.mr.map (·.n)) cs j=false:=by
    have:=a3E H.sh cs P (j:=j)
    rw[so] at this
    have:j∉P:=of_decide_eq_false this.symm
    cases e:isB (H.mr.map (·.n)) cs j with
    |false=>rfl
    |true=>exact absurd ((pi j).mpr ⟨hj,e⟩) this
   have mn:c.n∈H.mr.map (·.n):=by
    unfold isB at nb;rw[hm] at nb
    simpa using nb
   have A1:=hA p1;obtain⟨mm,im⟩:=a8b A1.c2 mn;have sd:=(K.mko _ mm).1;obtain⟨fi1,fi2,fs1,fs2⟩:=b4s p4
   have m0:∀h,ixD h (.tup [.str (o9 H.mr c.n).s,spD (o9 H.mr c.n).a,spD (o9 H.mr c.n).b]) (.int 0)=.ok (.str (o9 H.mr c.n).s) h:=fun h=>ix_tup (i:=0) rfl
   have m1:∀h,ixD h (.tup [.str (o9 H.mr c.n).s,spD (o9 H.mr c.n).a,spD (o9 H.mr c.n).b]) (.int 1)=.ok (spD (o9 H.mr c.n).a) h:=fun h=>ix_tup (i:=1) rfl
   have m2:∀h,ixD h (.tup [.str (o9 H.mr c.n).s,spD (o9 H.mr c.n).a,spD (o9 H.mr c.n).b]) (.int 2)=.ok (spD (o9 H.mr c.n).b) h:=fun h=>ix_tup (i:=2) rfl
   obtain⟨s,a',b',ta,fa,fi,fs⟩:∃(s a' b':Int×Int),G4 H.sh cs P H.mr H.pt j=s/\Q7 H.sh cs P H.mr H.pt (j+1)=(a',b')/\(∃g:Int×Int,ixD hh (.ref f) (.str (o9 H.mr c.n).s)=.ok (spD g) hh/\a5T g (o9 H.mr c.n).a=s)/\Q2 hh (.ref f) (.str (o9 H.mr c.n).s) (spD (y0 s (o9 H.mr c.n).b))=.ok () (hh.set f (.dict (E4 a' b'))):=by
    have eL:S9 H.sh cs P H.mr H.pt j (Q7 H.sh cs P H.mr H.pt j)=_:=rfl
    rcases sd with e|e
    · refine⟨_,_,_,?_,?_,⟨_,by rw[e];exact fi1,rfl⟩,by rw[e];exact fs1 _⟩
      · unfold G4 S9;rw[so,nn]
        simp only
        rw[ay e]
      · show(S9 H.sh cs P H.mr H.pt j _).2=_
        unfold S9;rw[so,nn]
        simp only
        rw[ay e]
    · have ne:¬(o9 H.mr c.n).s="above":=by rw[e];decide
      refine⟨_,_,_,?_,?_,⟨_,by rw[e];exact fi2,rfl⟩,by rw[e];exact fs2 _⟩
      · unfold G4 S9;rw[so,nn]
        simp only
        rw[az ne]
      · show(S9 H.sh cs P H.mr H.pt j _).2=_
        unfold S9;rw[so,nn]
        simp only
        rw[az ne]
   obtain⟨g,fi,es⟩:=fi;have mi:=b1b (ct:=ct) (F:=F) (k:=k+2) (a:=g) (b:=(o9 H.mr c.n).a) (h:=hh) f41;rw[es] at mi;have b4:=x5 (c':=.dict (E4 a' b')) p4;have b3:=b7 (c':=.dict (E4 a' b')) p7 p3;have b2:=b7 (c':=.dict (E4 a' b')) p6 p2;have Q:=p1.set (c:=.dict (E4 a' b')) p5;generalize hh.set f (.dict (E4 a' b'))=y at fs b2 b3 b4 Q;refine⟨_,[~~~n,~~~w,~~~v,some (.str way),some (.ref (h.length+1)),~~~f,some (.ref (h.length+4)),j⁻¹,some (ceD c),some (spD s),some (.tup [.str (o9 H.mr c.n).s,spD (o9 H.mr c.n).a,spD (o9 H.mr c.n).b])],y.set (h.length+4) (.lst ((List.range (j+1)).map fun j=>spD (G4 H.sh cs P H.mr H.pt j))),rfl,?_,f,_,_,_,_,rfl,Q.set (by omega),b7 (by omega) b2,x5 b3,by rw[fa];exact b7 (Ne.symm p7) b4,p5,p6,p7⟩
   show exs ct (b0 ct F (k+3)) laB [~~~n,~~~w,~~~v,some (.str way),some (.ref (h.length+1)),~~~f,some (.ref (h.length+4)),j⁻¹,some (ceD c),e9,e10] hh=_
   rw[so] at inS;unfold laB laM;rw[seq (env':=[~~~n,~~~w,~~~v,some (.str way),some (.ref (h.length+1)),~~~f,some (.ref (h.length+4)),j⁻¹,some (ceD c),some (spD s),some (.tup [.str (o9 H.mr c.n).s,spD (o9 H.mr c.n).a,spD (o9 H.mr c.n).b])]) (h':=y) (by simp_arith[inS,Option.isSome_none,A1.fld2,ce0,im,m0,fi,m1,mi,m2,a7S f40,fs])]
   simp_arith[C7 b3,K9 b3 t6,rs ta]) ⟨h.length+3,none,none,none,none,rfl,P1.app _,b5 aS,aT,b5 aF,by omega,by omega,by omega⟩
 rw[R6,aa,aB] at q3;rw[seq (env':=_) (h':=g') (by simp_arith[Y4,(P1.app [Cell.lst []]).at hw,e1];rfl)]
 simp_arith[]
 exact a2d q1 q3 (by omega) (D9 fun d hd=>by
  obtain⟨i,_,rfl⟩:=ak.mp hd
  rfl)
end
section
variable(sh:List (Str×Nat))(cs:List Ce)(P:List Nat)(mr:List Mk)(pt:List Pt)
def a0D(sd:Str):Nat->Int×Int
 |0=>(0,0)
 |j+1=>if cnA cs j∈mr.map (·.n) then(if(o9 mr (cnA cs j)).s=sd then y0 (G4 sh cs P mr pt j) (o9 mr (cnA cs j)).b else a0D sd j) else y0 (G4 sh cs P mr pt j) ((G5 pt (cnA cs j) sd).getD (0,0))
variable{sh cs P mr pt}
theorem a8p(hb:∀j,j<cs.length->((J3 sh cs P j).isSome=!decide (cnA cs j∈mr.map (·.n))))(hs:∀x∈mr.map (·.n),U3 (o9 mr x).s):∀j,j<=cs.length->Q7 sh cs P mr pt j=(a0D sh cs P mr pt "above" j,a0D sh cs P mr pt "below" j)
 |0,_=>rfl
 | j +1,hj=>by
  have ih:=a8p hb hs j (by omega)
  have h:=hb j (by omega)
  rw[Q7,a0D,a0D];unfold G4;rw[ih];unfold S9
  by_cases e:cnA cs j∈mr.map (·.n)
  · rw[bm e] at h
    have h':J3 sh cs P j=none:=by
     cases q:J3 sh cs P j with
     |none=>rfl
     |some s=>rw[q] at h;cases h
    rw[h',ay e,ay e]
    simp only
    rcases hs _ e with z|z
    · rw[z,ay rfl,ay rfl,az (by decide)]
    · rw[z,az (by decide),az (by decide),ay rfl]
  · rw[bB e] at h;obtain⟨s,q⟩:=Option.isSome_iff_exists.mp (show(J3 sh cs P j).isSome=true from h);rw[q,az e,az e]
theorem a9g(hb:∀j,j<cs.length->((J3 sh cs P j).isSome=!decide (cnA cs j∈mr.map (·.n))))(hs:∀x∈mr.map (·.n),U3 (o9 mr x).s)(hj:j<cs.length)(e:cnA cs j∈mr.map (·.n)):y0 (G4 sh cs P mr pt j) (o9 mr (cnA cs j)).a=a0D sh cs P mr pt (o9 mr (cnA cs j)).s j:=by
 have h:=hb j hj;rw[bm e] at h
 have h':J3 sh cs P j=none:=by
  cases q:J3 sh cs P j with
  |none=>rfl
  |some s=>rw[q] at h;cases h
 have back:∀f a:Int×Int,y0 (a5T f a) a=f:=fun f a=>by
  unfold y0 a5T;simp only[Int.sub_add_cancel]
 unfold G4;rw[a8p hb hs j (by omega)]
 unfold S9;rw[h']
 simp only
 rcases hs _ e with z|z
 · rw[z,ay rfl];exact back _ _
 · rw[z,az (by decide)]
   exact back _ _
end
abbrev RA(h:AH):List D->List (List Str)->Prop:=Paired fun d w=>∃r,d=.ref r/\h[r]? =some (.lst (w.map .str))
theorem RA.app{ws:List (List Str)}(A:RA h ds ws)(t:AH):RA (h++t) ds ws:=Paired.mapP A fun d w ⟨r,e,g⟩=>⟨r,e,b5 g⟩
theorem RA.cat{es:List D}{ws xs:List (List Str)}(A:RA h ds ws)(B:RA h es xs):RA h (ds++es) (ws++xs):=by
 induction A with
 |nil=>exact B
 |cons a t ih=>exact .cons a ih
variable{l:List (D×D)}
section
variable{F:Nat->Option Fn}
theorem a1H{α:Type}{gk:List (Nat×Cell)}{p:Pat}{c:CF}{e:E}{env0:n5}(h0:AH)(hg:∀t,gOk gk (h0++t)=true)(rp:α->D)(envf:α->n5)(wd:α->List Str):∀(l:List α) (acc:List D) (wacc:List (List Str)) (t:AH),(∀x∈l,D8 p (rp x) env0=some (envf x)/\∀t,EvL ct c e (envf x) (h0++t) (wd x))->acc.length+l.length<=1000->RA (h0++t) acc wacc→
 ∃ds T,D7 gk p (tst ct c .yes) (ev ct c e) env0 (l.map rp) acc (h0++t)=.ok ds (h0++T)/\RA (h0++T) ds (wacc++l.map wd)
 |[],acc,wacc,t,_,_,A=>⟨acc,t,by rw[map_nil,D7,ay (hg t)],by rw[map_nil,bh];exact A⟩
 |x::l,acc,wacc,t,hx,hl,A=>by
  rw[length_cons] at hl;obtain⟨b1,b2⟩:=hx x bf;obtain⟨r,u,q1,q2,_⟩:=b2 t;rw[aA] at q1 q2
  have A2:RA (h0++(t++u)) acc wacc:=by rw[←aA];exact A.app u
  obtain⟨ds,T,q3,q4⟩:=a1H h0 hg rp envf wd l (acc++[.ref r]) (wacc++[wd x]) (t++u) (fun y hy=>hx y (aD _ hy)) (by rw[ao];simp only[length_cons,length_nil];omega) (A2.cat (.cons ⟨r,rfl,q2⟩ .nil))
  refine⟨ds,T,?_,by rw[map_cons,List.append_cons];exact q4⟩
  rw[map_cons,D7,ay (hg t),b1];simp only[a2i,b9,if_true,q1];rw[ay (show acc.length<SL by show _<16777216;omega)]
  exact q3
def EvR(ct:CT)(c:CF)(e:E)(env:n5)(h:AH)(ws:List (List Str)):Prop:=∃q ds T,ev ct c e env h=.ok (.ref q) (h++T)/\(h++T)[q]? =some (.lst ds)/\RA (h++T) ds ws
theorem X1{a b:E}{xs ys:List (List Str)}(A:EvR ct c a env h xs)(B:∀t,EvR ct c b env (h++t) ys)(hl:xs.length+ys.length<=1000):EvR ct c (.bin .add a b) env h (xs++ys):=by
 obtain⟨q,ds,T,e1,g1,r1⟩:=A;obtain⟨q',ds',T',e2,g2,r2⟩:=B T;have l1:=Paired.length r1;have l2:=Paired.length r2
 have ad:op2 .add (h++T++T') (.ref q) (.ref q')=.ok (.ref (h++T++T').length) (h++T++T'++[.lst (ds++ds')]):=a5x (b5 g1) g2 (by omega)
 refine⟨(h++T++T').length,ds++ds',T++T'++[.lst (ds++ds')],?_,?_,?_⟩
 · rw[b2d,e1,b9,e2,b9,ad];simp only[aA]
 · rw[←aA,←aA];exact b6
 · rw[←aA,←aA];exact((r1.app T').cat r2).app _
theorem a7E{T:AH}{k:Nat}{c:Cell}(e:h[k]? =some c):((h.set k c')++T).set k c=h++T:=by
 have kl:=(ac.mp e).1
 rw[List.set_append_left _ _ (by rw[aN];exact kl),List.set_set]
 congr 1
 apply ext_getElem?
 intro i
 by_cases q:i=k
 · subst q;rw[List.getElem?_set_self kl,e]
 · rw[List.getElem?_set_ne (Ne.symm q)]
theorem O8{a:E}{k:Nat}{fr:List Nat}{L:List α}(rp:α->D)(envf:α->n5)(wd:α->List Str)(ha:ev ct c a env h=.ok (.ref k) h)(hk:h[k]? =some (.dict l))(hw:U2 l=L.map rp)
 (hx:∀x∈L,D8 p (rp x) (u9 n fr env)=some (envf x)/\∀h,EvL ct c e (envf x) h (wd x)) (hl:L.length<=1000):EvR ct c (.compI p a n fr .yes e) env h (L.map wd):=by
 have kl:=(ac.mp hk).1
 have hg:∀t,gOk [(k,.rod l)] (h.set k (.rod l)++t)=true:=fun t=>by
  simp only[gOk,all_cons,all_nil,b5 (g:=t) (List.getElem?_set_self (a:=Cell.rod l) kl)]
  simp
 obtain⟨ds,T,q1,q2⟩:=a1H (ct:=ct) (c:=c) (h.set k (.rod l)) hg rp envf wd L [] [] [] (fun x m=>⟨(hx x m).1,fun t=>(hx x m).2 _⟩) (by rw[length_nil];omega) .nil
 rw[bh,←hw] at q1;rw[nil_append] at q2;refine⟨(h++T).length,ds,T++[.lst ds],?_,by rw[←aA];exact b6,?_⟩
 · rw[ev,ha,b9];simp only[a8y,hk,q1,b9,a7E hk];rw[←aA];rfl
 · rw[←aA];refine RA.app (Paired.mapP q2 fun d w ⟨r,e,g⟩=>⟨r,e,?_⟩) _
   rw[←a7E (c':=.rod l) hk];refine b7 (fun z=>?_) g
   subst z;rw[b5 (g:=T) (List.getElem?_set_self (a:=Cell.rod l) kl)] at g
   cases g
theorem a8q{a:E}{k:Nat}{fr:List Nat}{L:List α}(rp:α->D)(envf:α->n5)(wd:α->List Str)(ha:ev ct c a env h=.ok (.ref k) h)(hk:h[k]? =some (.lst (L.map rp)))
 (hx:∀x∈L,D8 p (rp x) (u9 n fr env)=some (envf x)/\∀h,EvL ct c e (envf x) h (wd x)) (hl:L.length<=1000):EvR ct c (.comp p (.seq a) n fr .yes e) env h (L.map wd):=by
 have hg:∀t,gOk [(k,.lst (L.map rp))] (h++t)=true:=fun t=>by
  simp only[gOk,all_cons,all_nil,b5 (g:=t) hk];simp
 obtain⟨ds,T,q1,q2⟩:=a1H (ct:=ct) (c:=c) h hg rp envf wd L [] [] [] (fun x m=>⟨(hx x m).1,fun t=>(hx x m).2 _⟩) (by rw[length_nil];omega) .nil
 rw[bh] at q1;rw[nil_append] at q2;refine⟨(h++T).length,ds,T++[.lst ds],?_,by rw[←aA];exact b6,by rw[←aA];exact q2.app _⟩
 rw[a1q (x:=(L.map rp,[(k,.lst (L.map rp))])) (h1:=h) (by simp_arith[ha,V6,hk]) q1,←aA]
theorem N3{k:Nat}{ws:List (List Str)}(hF:F f=some fd)(hb:fd=⟨1,1,0,(.o (.ret e))⟩)(A:EvR ct (b0 ct F k) e [~~~n] h ws):∃q ds T,b0 ct F (k+1) f [.ref n] h=.ok (.ref q) (h++T)/\(h++T)[q]? =some (.lst ds)/\RA (h++T) ds ws:=by
 obtain⟨q,ds,T,e1,g,r⟩:=A;subst hb;refine⟨q,ds,T,?_,g,r⟩
 rw[i6 hF rfl,gc0]
 show Q4 (exs ct (b0 ct F k) (.o (.ret e)) [~~~n] h)=_
 rw[J0,a5j,e1];rfl
theorem b8y{k:Nat}{p:Int×Int}(hF:F 44=some B8)(hp:Y1 p):b0 ct F (k+1) 44 [spD p] h=.ok (.ref h.length) (h++[.lst ((D2 p).map .str)]):=by
 rw[i6 hF rfl];simp only[B8];simp_arith[sp0,sp1,a1y hp.1,a1y hp.2,o5];exact gc2 (g:=[.lst [.str (num p.1),.str (num p.2)]]) b6 (ai _) rfl
theorem a7o{k:Nat}{a:E}{p:Int×Int}(hF:F 44=some B8)(hp:Y1 p)(ha:ev ct (b0 ct F (k+1)) a env h=.ok (spD p) h):EvL ct (b0 ct F (k+1)) (.call 44 (.cons a .nil)) env h (D2 p):=
 ⟨h.length,[.lst ((D2 p).map .str)],by simp_arith[ha,b8y hF hp],b6,.inl (ai _)⟩
theorem Z7(k:α->Str)(f:α->D)(l:List α):U2 (kd (l.map fun x=>(k x,f x)))=l.map fun x=>D.tup [.str (k x),f x]:=by
 unfold U2 kd;rw[aH,aH];rfl
theorem a1V{k:Nat}{ws:List (List Str)}(hc:∃q ds T,b0 ct F (k+1) f [.ref n] h=.ok (.ref q) (h++T)/\(h++T)[q]? =some (.lst ds)/\RA (h++T) ds ws)(e0:env[0]? =some (~~~n)):EvR ct (b0 ct F (k+1)) (.call f (.o (.v 0))) env h ws:=by
 obtain⟨q,ds,T,e1,g,r⟩:=hc;exact⟨q,ds,T,by simp_arith[e0,e1],g,r⟩
theorem b4x{t:T}{a b:E}:ev ct c (.ife t a b) env h=(tst ct c t env h).bind fun x h1=>if x=true then ev ct c a env h1 else ev ct c b env h1:=by(rw[ev];try rfl)
theorem b2K{a b:D}{r:List D}:ixD h (.tup (a::b::r)) (.int 1)=.ok b h:=ix_tup (i:=1) rfl
theorem b5r{a b c:D}{r:List D}:ixD h (.tup (a::b::c::r)) (.int 2)=.ok c h:=ix_tup (i:=2) rfl
theorem b1l{g:List (Nat×Cell)}{env0:n5}(he:env0=[none])(hg:gOk g h=true):∀{ds:List D} {ws:List (List Str)} (acc:List D),RA h ds ws->(∀w∈ws,Row w)->acc.length+ds.length<=1000->D7 g (.nm 0) (tst ct c .yes) (ev ct c (.mt .join (.s " ") (.o (.v 0)))) env0 ds acc h=.ok (acc++ws.map fun w=>.str (ln w)) h:=by
 intro ds ws acc A
 induction A generalizing acc with
 |nil=>
  intro _ _;rw[D7,ay hg,map_nil,bh]
 | @cons d w ds ws a t ih=>
  intro hr hl;rw[length_cons] at hl;obtain⟨r,rfl,gr⟩:=a
  have rw':=hr w bf
  have jn:=a4V gr (b5f (fun x hx=>(rw'.w x hx).l) (by have:=rw'.l;omega))
  have ev1:ev ct c (.mt .join (.s " ") (.o (.v 0))) [~~~r] h=.ok (.str (ln w)) h:=by simp_arith[mtT,jn];rfl
  rw[D7,ay hg];subst he;simp only[D8,List.set_cons_zero,a2i,b9,if_true,ev1];rw[ay (show acc.length<SL by show _<16777216;omega),ih _ (fun x hx=>hr x (aD _ hx)) (by rw[ao];simp only[length_cons,length_nil];omega),aA]
  rfl
variable{H:HL}(K:HLok H)
include K
theorem a5Q{k:Nat}(A:HallAt h n (a0a H))(f44:F 44=some B8)(f45:F 45=some K4)(f46:F 46=some M9)(f47:F 47=some K5)(f48:F 48=some I0)(f49:F 49=some Q8)(f50:F 50=some K6)(f51:F 51=some F5)(f52:F 52=some M8)(env:n5)(e0:env[0]? =some (~~~n)):
 EvR ct (b0 ct F (k+3)) (.call 45 (.o (.v 0))) env h (H.sh.map J9)/\EvR ct (b0 ct F (k+3)) (.call 46 (.o (.v 0))) env h (H.mr.map P9)/\EvR ct (b0 ct F (k+3)) (.call 47 (.o (.v 0))) env h (H.pt.map T8)/\EvR ct (b0 ct F (k+3)) (.call 48 (.o (.v 0))) env h (H.ls.map J1)∧
 EvR ct (b0 ct F (k+3)) (.call 49 (.o (.v 0))) env h (H.gp.map a2a)/\EvR ct (b0 ct F (k+3)) (.call 50 (.o (.v 0))) env h (H.cs.map N4)/\EvR ct (b0 ct F (k+3)) (.call 51 (.o (.v 0))) env h (H.fe.map Y2)/\EvR ct (b0 ct F (k+3)) (.call 52 (.o (.v 0))) env h []:=by
 have lsh:=K.sh.hi
 have lmr:H.mr.length<=1000:=by have:=K.mr.length_le;rw[aa,aa] at this;omega
 have lpt:=K.ptl;have lls:=K.ls
 have lgp:H.gp.length<=1000:=by have:=K.gp.length_le;rw[aa] at this;omega
 have lcs:=K.cs;have lfe:=K.fe
 have bd:∀{x y:D},D8 (.tp (.cons (.nm 0) (.cons (.nm 1) .nil))) (.tup [x,y]) [none,none]=some [some x,some y]:=rfl
 refine⟨a1V (N3 f45 rfl (O8 (k:=n+1) _ (fun p=>[some (.str p.1),some (.int (p.2:Int))]) J9 (by simp_arith[A.fld1]) A.c1 (Z7 _ _ _) (fun x hx=>⟨bd,fun h=>O5 (xs:=J9 x) ?_ (Nat.le_of_ble_eq_true rfl)⟩) (by omega))) e0,
  a1V (N3 f46 rfl (O8 (k:=n+2) _ (fun m=>[some (.str m.n),some (.tup [.str m.s,spD m.a,spD m.b])]) P9 (by simp_arith[A.fld2]) A.c2 (Z7 _ _ _) (fun x hx=>⟨bd,fun h=>X2 (xs:=("mark":Str)::x.n::x.s::D2 x.a) (ys:=D2 x.b) (X2 (xs:=["mark",x.n,x.s]) (ys:=D2 x.a) (O5 ?_ (Nat.le_of_ble_eq_true rfl)) (fun t=>a7o f44 (K.mko x hx).2.1 ?_) (Nat.le_of_ble_eq_true rfl)) (fun t=>a7o f44 (K.mko x hx).2.2 ?_) (Nat.le_of_ble_eq_true rfl)⟩) lmr)) e0,
  a1V (N3 f47 rfl (O8 (k:=n+3) (L:=H.pt) (fun p=>D.tup [.tup [.str p.n,.str p.s],spD p.a]) (fun p=>[some (.tup [.str p.n,.str p.s]),some (spD p.a)]) T8 (by simp_arith[A.fld3]) A.c3 (by unfold U2 a0a hP pd;rw[aH,aH];rfl) (fun x hx=>⟨bd,fun h=>X2 (xs:=["point",x.n,x.s]) (ys:=D2 x.a) (O5 ?_ (Nat.le_of_ble_eq_true rfl)) (fun t=>a7o f44 (K.pto x hx).2.2 ?_) (Nat.le_of_ble_eq_true rfl)⟩) (by omega))) e0,
  a1V (N3 f48 rfl (O8 (k:=n+4) _ (fun l=>[some (.str l.n),some (.tup [.str l.j,.str l.w,.tup (l.fs.map .str)])]) J1 (by simp_arith[A.fld4]) A.c4 (Z7 _ _ _) (fun x hx=>⟨bd,fun h=>X2 (xs:=["letter",x.n,x.j,x.w]) (ys:=x.fs) (O5 ?_ (Nat.le_of_ble_eq_true rfl)) (fun t=>a1p ?_) ?_⟩) (by omega))) e0,
  a1V (N3 f49 rfl (a8q (k:=n+5) D.str (fun p=>[some (.str p)]) a2a (by simp_arith[A.fld5]) A.c5 (fun x hx=>⟨rfl,fun h=>O5 (xs:=a2a x) ?_ (Nat.le_of_ble_eq_true rfl)⟩) lgp)) e0,
  a1V (N3 f50 rfl (O8 (k:=n+6) _ (fun l=>[some (.str l.n),some (.tup (l.fs.map .str))]) N4 (by simp_arith[A.fld6]) A.c6 (Z7 _ _ _) (fun x hx=>⟨bd,fun h=>X2 (xs:=["class",x.n]) (ys:=x.fs) (O5 ?_ (Nat.le_of_ble_eq_true rfl)) (fun t=>a1p ?_) ?_⟩) (by omega))) e0,
  a1V (N3 f51 rfl (O8 (k:=n+7) _ (fun p=>[some (.str p.1),some (.bl p.2)]) Y2 (by simp_arith[A.fld7]) A.c7 (Z7 _ _ _) (fun x hx=>⟨bd,fun h=>O5 (xs:=Y2 x) ?_ (Nat.le_of_ble_eq_true rfl)⟩) (by omega))) e0,
  a1V (N3 f52 rfl (a8q (k:=n+8) (L:=([]:List D)) id (fun d=>[]) (fun d=>[]) (by simp_arith[A.fld8]) A.c8 (fun x hx=>nomatch hx) (Nat.le_of_ble_eq_true rfl))) e0⟩
 · have b:=K.sh.ok x hx;simp_arith[a1y (show-99999<=(x.2:Int)/\(x.2:Int)<=99999 by omega),J9,map_cons,map_nil]
 · simp_arith[a0x,map_cons,map_nil]
 · simp_arith[b2K]
 · simp_arith[b5r]
 · simp_arith[a0x,b2K,map_cons,map_nil]
 · simp_arith[]
 · simp_arith[a0x,b2K,map_cons,map_nil]
 · simp_arith[b5r]
 · have:=(K.lso x hx).few
   simp only[length_cons,length_nil];omega
 · simp_arith[a2a,map_cons,map_nil]
 · simp_arith[map_cons,map_nil]
 · simp_arith[]
 · have:=(K.cso x hx).few
   simp only[length_cons,length_nil];omega
 · cases x with|mk y b=>cases b<;>simp_arith[b4x,Y2,a6V,map_cons,map_nil]
theorem b4Z{k:Nat}(A:HallAt h n (a0a H))(f43:F 43=some J6)(f44:F 44=some B8)(f45:F 45=some K4)(f46:F 46=some M9)(f47:F 47=some K5)(f48:F 48=some I0)(f49:F 49=some Q8)(f50:F 50=some K6)(f51:F 51=some F5)(f52:F 52=some M8):b0 ct F (k+4) 43 [.ref n] h=.ok (.str (M5 H)) h:=by
 have ln:=(Q3 K).1;unfold G3 at ln;simp only[ao,aa] at ln
 have R:∀t (env:n5) (e0:env[0]? =some (~~~n)),_:=fun t env e0=>a5Q (ct:=ct) (k:=k) K (A.app t) f44 f45 f46 f47 f48 f49 f50 f51 f52 env e0
 have R0:∀(env:n5) (e0:env[0]? =some (~~~n)),_:=fun env e0=>a5Q (ct:=ct) (k:=k) K A f44 f45 f46 f47 f48 f49 f50 f51 f52 env e0
 obtain⟨q,ds,T,e1,g1,r1⟩:=X1 (X1 (X1 (R0 [~~~n,none] rfl).1 (fun t=>(R t _ rfl).2.1) (by simp only[aa];omega)) (fun t=>(R t _ rfl).2.2.1) (by simp only[ao,aa];omega)) (fun t=>(R t _ rfl).2.2.2.1) (by simp only[ao,aa];omega)
 have R1:∀t,_:=fun t=>R (T++t) [~~~n,~~~q] rfl
 simp only[←aA] at R1;obtain⟨q2,ds2,T2,e2,g2,r2⟩:=X1 (X1 (X1 (X1 (a:=.v 1) (env:=[~~~n,~~~q]) (ct:=ct) (c:=b0 ct F (k+3)) ⟨q,ds,[],by rw[bh];simp_arith[],by rw[bh];exact g1,by rw[bh];exact r1⟩ (fun t=>(R1 t).2.2.2.2.1) (by simp only[ao,aa];omega)) (fun t=>(R1 t).2.2.2.2.2.1) (by simp only[ao,aa];omega)) (fun t=>(R1 t).2.2.2.2.2.2.1) (by simp only[ao,aa];omega)) (fun t=>(R1 t).2.2.2.2.2.2.2) (by simp only[ao,aa,length_nil];omega)
 rw[bh] at r2
 have lr:ds2.length<=300:=by rw[Paired.length r2];exact(Q3 K).1
 have jn:=b1l (ct:=ct) (c:=b0 ct F (k+3)) (g:=[(q2,.lst ds2)]) (env0:=[none]) rfl (by simp only[gOk,all_cons,all_nil,g2];simp) [] r2 (a4B K) (by rw[length_nil];omega)
 rw[i6 f43 rfl]
 show gcR 1 h (Q4 (exs ct (b0 ct F (k+3)) J6.body [~~~n,none] h))=_
 simp only[J6];rw[seq (env':=[~~~n,~~~q]) (h':=h++T) (by rw[a0S,e1];rfl),seq (env':=[~~~n,~~~q2]) (h':=h++T++T2) (by rw[a0S,e2];rfl),J0,a5j]
 have jj:=a4V (sep:="\n") (ts:=(G3 H).map EV.ln) (n:=(h++T++T2).length) (g:=h++T++T2++[.lst (((G3 H).map EV.ln).map .str)]) b6 (a9J K)
 have cm:ev ct (b0 ct F (k+3)) (.comp (.nm 0) (.seq (.v 1)) 1 [] .yes (.mt .join (.s " ") (.o (.v 0)))) [~~~n,~~~q2] (h++T++T2)=.ok (.ref (h++T++T2).length) (h++T++T2++[.lst (((G3 H).map EV.ln).map .str)]):=by
  rw[a1q (x:=(ds2,[(q2,.lst ds2)])) (h1:=h++T++T2) (by simp_arith[V6,g2]) jn,aH]
  rfl
 simp_arith[cm,mtT,jj];exact b4l ((((Pf.refl h).app _).app _).app _) rfl
end
theorem b4I{pt:List Pt}(nd:(pt.map ptK).Nodup):biD .dict (h++[.lst (pt.map fun p=>D.tup [.tup [.str p.n,.str p.s],spD p.a])]) [.ref h.length]=.ok (.ref (h++[Cell.lst (pt.map fun p=>D.tup [.tup [.str p.n,.str p.s],spD p.a])]).length) (h++[.lst (pt.map fun p=>D.tup [.tup [.str p.n,.str p.s],spD p.a])]++[.dict (pd (hP pt))]):=by
 have pr:∀l:List Pt,a8W (l.map fun p=>D.tup [.tup [.str p.n,.str p.s],spD p.a])=some (pd (hP l)):=fun l=>by
  induction l with
  |nil=>rfl
  |cons p r ih=>rw[map_cons,a8W,ay (show(u7 [D.str p.n,.str p.s]).isSome=true from rfl),ih];rfl
 have nd':((pd (hP pt)).map (·.1)).Nodup:=by
  unfold pd hP;rw[aH,aH];unfold List.Nodup at nd⊢;rw[List.pairwise_map] at nd⊢;refine nd.imp fun{a b} h e=>h ?_
  simp only[Function.comp_apply,D.tup.injEq,List.cons.injEq,D.str.injEq,and_true] at e;exact Prod.ext e.1 e.2
 cases pt with
 |nil=>simp only[biD,b6,a0l];rfl
 |cons p r=>
  simp only[biD,b6,a0l,pr,o5];rw[show a5U ((p::r).map fun p=>D.tup [.tup [.str p.n,.str p.s],spD p.a])=none from by rw[map_cons,a5U];exact az (fun h=>nomatch h)]
  simp only[bm nd',if_true]
section
variable{F:Nat->Option Fn}
theorem b5g{i m:Nat}{T:D}(e:env[i]? =some (some T))(t1:∀h,ixD h T (.int 1)=.ok (.ref m) h)(hm:h[m]? =some (.lst (mr.map mkD)))(nd:(mr.map (·.n)).Nodup)(hl:mr.length<=1000):ev ct c (fmE i) env h=.ok (.ref (h.length+1)) (h++[.lst ((hM mr).map fun p=>D.tup [.str p.1,p.2])]++[.dict (kd (hM mr))]):=by
 have sl:∀(a b c d:D) h,slD h (some 1) none (.tup [a,b,c,d])=.ok (.tup [b,c,d]) h:=fun _ _ _ _ _=>rfl
 have cm:ev ct c (.comp (.nm 0) (.seq (.ix (.v i) (.i 1))) 1 [] .yes (.tup (.cons (.ix (.v 0) (.i 0)) (.o (.sl (.v 0) (.at (.i 1)) .no))))) env h=.ok (.ref h.length) (h++[.lst ((hM mr).map fun p=>D.tup [.str p.1,p.2])]):=by
  rw[v7 (l:=mr.map mkD) (g:=[(m,.lst (mr.map mkD))]) (h1:=h) (by simp_arith[e,t1,V6,hm]) (by simp only[gOk,all_cons,all_nil,hm];simp) (fun x=>match x with
   |.tup (a::r)=>.tup [a,.tup r]
   |_=>.non) (fun x=>[some x]) (fun x hx=>by
   obtain⟨c,_,rfl⟩:=ak.mp hx;refine⟨rfl,?_⟩
   unfold mkD;simp_arith[a0x,sl,ay (show 2<=SL by decide)]) (by rw[aa];show _<=16777216;omega)]
  congr 3;unfold hM;rw[aH,aH];rfl
 have dk:=a5l (h:=h) (l:=hM mr) (by rw[show(hM mr).map (·.1)=mr.map (·.n) from a1D _ _ _];exact nd)
 unfold fmE;simp_arith[cm,dk,ao,length_cons,length_nil]
theorem b9l{m:Nat}{T:D}{pt:List Pt}(e:env[0]? =some (some T))(t1:∀h,ixD h T (.int 2)=.ok (.ref m) h)(hm:h[m]? =some (.lst (pt.map ptD)))(nd:(pt.map ptK).Nodup)(hl:pt.length<=1000):ev ct c fpE env h=.ok (.ref (h.length+1)) (h++[.lst (pt.map fun p=>D.tup [.tup [.str p.n,.str p.s],spD p.a])]++[.dict (pd (hP pt))]):=by
 have cm:ev ct c (.comp (.tp (.cons (.nm 0) (.cons (.nm 1) (.cons (.nm 2) .nil)))) (.seq (.ix (.v 0) (.i 2))) 3 [] .yes (.tup (.cons (.tup (.cons (.v 0) (.o (.v 1)))) (.o (.v 2))))) env h=.ok (.ref h.length) (h++[.lst (pt.map fun p=>D.tup [.tup [.str p.n,.str p.s],spD p.a])]):=by
  rw[v7 (l:=pt.map ptD) (g:=[(m,.lst (pt.map ptD))]) (h1:=h) (by simp_arith[e,t1,V6,hm]) (by simp only[gOk,all_cons,all_nil,hm];simp) (fun x=>match x with
   |.tup [a,b,c]=>.tup [.tup [a,b],c]
   |_=>.non) (fun x=>match x with
   |.tup [a,b,c]=>[some a,some b,some c]
   |_=>[]) (fun x hx=>by
   obtain⟨c,_,rfl⟩:=ak.mp hx;refine⟨rfl,?_⟩
   unfold ptD;simp_arith[ay (show 2<=SL by decide)]) (by rw[aa];show _<=16777216;omega)]
  congr 3;rw[aH];rfl
 have dk:=b4I (h:=h) nd;unfold fpE;simp_arith[cm,dk,ao,length_cons,length_nil]
section
variable{P:List Nat}{pt:List Pt}
theorem a3U{c:CF}{w f a b j:Nat}{T:D}{sd:Str}{h:AH}(ha:h[a]? =some (.dict (kd (hM mr))))(hb:h[b]? =some (.dict (pd (hP pt))))(hw:h[w]? =some (.lst (cs.map ceD)))(hf:h[f]? =some (.lst ((List.range cs.length).map fun j=>spD (G4 sh cs P mr pt j)))):∀(i:Nat),i<=cs.length->∀e7 e8 e9,∃o,V0 [] (.nm 7) (exs ct c ftB) ((List.range i).map fun k:Nat=>D.int ((i:Int)-1-(k:Nat))) [some T,~~~w,~~~f,j⁻¹,~~~a,some (.str sd),~~~b,e7,e8,e9] h=.ok o h/\(o=.rt (spD (a0D sh cs P mr pt sd i))∨(∃env',o=.nx env')/\a0D sh cs P mr pt sd i=(0,0))
 |0,_,e7,e8,e9=>⟨_,rfl,.inr ⟨⟨_,rfl⟩,rfl⟩⟩
 | i + 1,hi,e7,e8,e9=>by
  have hi':i<cs.length:=by omega
  have ih:=a3U (c:=c) (j:=j) (T:=T) (sd:=sd) ha hb hw hf i (by omega) (i⁻¹) (some (.str (cnA cs i))) e9
  have lst:(List.range (i+1)).map (fun k:Nat=>D.int (((i+1:Nat):Int)-1-(k:Nat)))=.int (i:Int)::(List.range i).map fun k:Nat=>D.int ((i:Int)-1-(k:Nat)):=by
   rw[List.range_succ_eq_map,map_cons,aH];congr 1
   · congr 1;omega
   · refine bc fun k _=>?_
     show D.int _=D.int _
     congr 1;omega
  have nn:cnA cs i=cs[i].n:=by unfold cnA;rw[af hi']
  have i1:ixD h (.ref w) (.int (i:Int))=.ok (ceD cs[i]) h:=B9 hw (by rw[aj,af hi'];rfl)
  have i2:ixD h (.ref f) (.int (i:Int))=.ok (spD (G4 sh cs P mr pt i)) h:=B9 hf (by rw[aj,aJ hi'];rfl)
  have ni:=b0Z (k:=cnA cs i) ha;rw[show(hM mr).map (·.1)=mr.map (·.n) from a1D _ _ _] at ni
  have ce:=ce0 (c:=cs[i]) (h:=h);rw[←nn] at ce;rw[lst,V0,ay (show gOk [] h=true from rfl)];simp only[D8,set_cons_succ,List.set_cons_zero];unfold a0D
  by_cases m:cnA cs i∈mr.map (·.n)
  · rw [bm m] at ni;obtain⟨_,im⟩:=a8b ha m;rw[ay m]
    by_cases q:(o9 mr (cnA cs i)).s=sd
    · rw[ay q]
      have bo:exs ct c ftB [some T,~~~w,~~~f,j⁻¹,~~~a,some (.str sd),~~~b,i⁻¹,e8,e9] h=.ok (.rt (spD (y0 (G4 sh cs P mr pt i) (o9 mr (cnA cs i)).b))) h:=by
       unfold ftB;rw[seq (env':=[some T,~~~w,~~~f,j⁻¹,~~~a,some (.str sd),~~~b,i⁻¹,some (.str (cnA cs i)),e9]) (h':=h) (by simp_arith[i1,ce])]
       rw[seq (env':=[some T,~~~w,~~~f,j⁻¹,~~~a,some (.str sd),~~~b,i⁻¹,some (.str (cnA cs i)),e9]) (h':=h) (by simp_arith[op2,ni,Bool.not_true])]
       simp_arith[im,a0x,b5r,op2,K0,eqS,q,decide_true,i2,sp0,sp1,l7,ay (show 2<=SL by decide)]
       rfl
      exact⟨_,by rw[bo,b9],.inl rfl⟩
    · rw[az q]
      have bo:exs ct c ftB [some T,~~~w,~~~f,j⁻¹,~~~a,some (.str sd),~~~b,i⁻¹,e8,e9] h=.ok (.nx [some T,~~~w,~~~f,j⁻¹,~~~a,some (.str sd),~~~b,i⁻¹,some (.str (cnA cs i)),e9]) h:=by
       unfold ftB;rw[seq (env':=[some T,~~~w,~~~f,j⁻¹,~~~a,some (.str sd),~~~b,i⁻¹,some (.str (cnA cs i)),e9]) (h':=h) (by simp_arith[i1,ce])]
       rw[seq (env':=[some T,~~~w,~~~f,j⁻¹,~~~a,some (.str sd),~~~b,i⁻¹,some (.str (cnA cs i)),e9]) (h':=h) (by simp_arith[op2,ni,Bool.not_true])]
       simp_arith[im,a0x,op2,K0,eqS,q,decide_false]
      rw[bo,b9];exact ih
  · rw[bB m] at ni;rw[az m];have gt:=a5c (cnA cs i) sd pt
    have dc:a7g h (.ref b)=true:=by simp only[a7g,hb]
    have gg:a3e h (.ref b) (.tup [.str (cnA cs i),.str sd]) (.tup [.int 0,.int 0])=.ok (spD ((G5 pt (cnA cs i) sd).getD (0,0))) h:=by
     simp only[a3e,hb,a2v,if_true,gt]
     cases G5 pt (cnA cs i) sd<;>rfl
    have bo:exs ct c ftB [some T,~~~w,~~~f,j⁻¹,~~~a,some (.str sd),~~~b,i⁻¹,e8,e9] h=.ok (.rt (spD (y0 (G4 sh cs P mr pt i) ((G5 pt (cnA cs i) sd).getD (0,0))))) h:=by
     unfold ftB;rw[seq (env':=[some T,~~~w,~~~f,j⁻¹,~~~a,some (.str sd),~~~b,i⁻¹,some (.str (cnA cs i)),e9]) (h':=h) (by simp_arith[i1,ce])]
     simp_arith[op2,ni,Bool.not_false,a8t,dc,ay (show 2<=SL by decide),gg,i2,sp0,sp1,l7]
     rfl
    exact⟨_,by rw[bo,b9],.inl rfl⟩
theorem b4q{k m p:Nat}{T:D}(hF:F 219=some N1)(t1:∀h,ixD h T (.int 1)=.ok (.ref m) h)(t2:∀h,ixD h T (.int 2)=.ok (.ref p) h)(hm:h[m]? =some (.lst (mr.map mkD)))(hp:h[p]? =some (.lst (pt.map ptD)))(hw:h[w]? =some (.lst (cs.map ceD)))(hf:h[f]? =some (.lst ((List.range cs.length).map fun j=>spD (G4 sh cs P mr pt j))))(nm:(mr.map (·.n)).Nodup)(np:(pt.map ptK).Nodup)(lm:mr.length<=1000)(lp:pt.length<=1000)(lc:cs.length<=63)(hj:j<cs.length)(hx:cnA cs j∈mr.map (·.n)):b0 ct F (k+1) 219 [T,.ref w,.ref f,.int (j:Int)] h=.ok (spD (a0D sh cs P mr pt (o9 mr (cnA cs j)).s j)) h:=by
 have e1:=b5g (ct:=ct) (c:=b0 ct F k) (i:=0) (env:=[some T,~~~w,~~~f,j⁻¹,none,none,none,none,none,none]) rfl t1 hm nm lm
 have P1:Pf h (h++[.lst ((hM mr).map fun p=>D.tup [.str p.1,p.2])]++[.dict (kd (hM mr))]):=((Pf.refl h).app _).app _
 have a1:(h++[Cell.lst ((hM mr).map fun p=>D.tup [.str p.1,p.2])]++[Cell.dict (kd (hM mr))])[h.length+1]? =some (.dict (kd (hM mr))):=by
  rw[show h.length+1=(h++[Cell.lst ((hM mr).map fun p=>D.tup [.str p.1,p.2])]).length by simp]
  exact b6
 generalize h.length+1=a at e1 a1;generalize h++[Cell.lst ((hM mr).map fun p=>D.tup [.str p.1,p.2])]++[Cell.dict (kd (hM mr))]=x at e1 a1 P1
 have e2:=b9l (ct:=ct) (c:=b0 ct F k) (env:=[some T,~~~w,~~~f,j⁻¹,~~~a,none,none,none,none,none]) rfl t2 (P1.at hp) np lp
 have P2:Pf x (x++[.lst (pt.map fun p=>D.tup [.tup [.str p.n,.str p.s],spD p.a])]++[.dict (pd (hP pt))]):=((Pf.refl x).app _).app _
 have b1:(x++[Cell.lst (pt.map fun p=>D.tup [.tup [.str p.n,.str p.s],spD p.a])]++[Cell.dict (pd (hP pt))])[x.length+1]? =some (.dict (pd (hP pt))):=by
  rw[show x.length+1=(x++[Cell.lst (pt.map fun p=>D.tup [.tup [.str p.n,.str p.s],spD p.a])]).length by simp]
  exact b6
 generalize x.length+1=b at e2 b1;generalize x++[Cell.lst (pt.map fun p=>D.tup [.tup [.str p.n,.str p.s],spD p.a])]++[Cell.dict (pd (hP pt))]=y at e2 b1 P2
 replace a1:=P2.at a1
 have P3:=P1.trans P2;obtain⟨_,im⟩:=a8b a1 hx
 have nn:cnA cs j=cs[j].n:=by unfold cnA;rw[af hj]
 have i1:ixD y (.ref w) (.int (j:Int))=.ok (ceD cs[j]) y:=B9 (P3.at hw) (by rw[aj,af hj];rfl)
 have ce:=ce0 (c:=cs[j]) (h:=y);rw[←nn] at ce;obtain⟨o,w1,w2⟩:=a3U (ct:=ct) (c:=b0 ct F k) (j:=j) (T:=T) (sd:=(o9 mr (cnA cs j)).s) a1 b1 (P3.at hw) (P3.at hf) j (by omega) none none none
 have dn:dnI y (.int ((j:Int)-1)) (.int (-1))=.ok ((List.range j).map fun k:Nat=>D.int ((j:Int)-1-(k:Nat)),[]) y:=by
  show(if N5 ((j:Int)-1)=true/\N5 (-1)=true then R.ok ((List.range ((j:Int)-1- -1).toNat).map fun k:Nat=>D.int ((j:Int)-1-(k:Nat)),[]) y else .no)=_
  rw[ay ⟨by
   cases j with
   |zero=>rfl
   |succ j=>rw[show((j+1:Nat):Int)-1=(j:Nat) by omega];exact U6 (by omega),rfl⟩,show((j:Int)-1- -1).toNat=j by omega]
 have fr:ex ct (b0 ct F k) (.for (.nm 7) (.rngD (.bin .sub (.v 3) (.i 1)) (.neg (.i 1))) ftB) [some T,~~~w,~~~f,j⁻¹,~~~a,some (.str (o9 mr (cnA cs j)).s),~~~b,none,none,none] y=.ok o y:=by
  rw[a7n,show evi ct (b0 ct F k) (.rngD (.bin .sub (.v 3) (.i 1)) (.neg (.i 1))) [some T,~~~w,~~~f,j⁻¹,~~~a,some (.str (o9 mr (cnA cs j)).s),~~~b,none,none,none] y=.ok ((List.range j).map fun k:Nat=>D.int ((j:Int)-1-(k:Nat)),[]) y by
   rw[evi];simp_arith[b5l,dn],b9]
  exact w1
 rw[i6 hF rfl];rw[N1]
 show gcR 1 h (Q4 (exs ct (b0 ct F k) _ [some T,~~~w,~~~f,j⁻¹,none,none,none,none,none,none] h))=_
 rw[seq (env':=[some T,~~~w,~~~f,j⁻¹,~~~a,none,none,none,none,none]) (h':=x) (by rw[a0S,e1];rfl)]
 rw[seq (env':=[some T,~~~w,~~~f,j⁻¹,~~~a,none,~~~b,none,none,none]) (h':=y) (by rw[a0S,e2];rfl)]
 rw[seq (env':=[some T,~~~w,~~~f,j⁻¹,~~~a,some (.str (o9 mr (cnA cs j)).s),~~~b,none,none,none]) (h':=y) (by simp_arith[i1,ce,im,a0x])]
 rcases w2 with rfl|⟨⟨env',rfl⟩,z⟩
 · rw[J0,fr,b9];exact b4l P3 rfl
 · rw[seq fr];simp_arith[ay (show 2<=SL by decide)]
   rw[z];exact b4l P3 rfl
end
end
theorem a3S:∀l:List Int,a3T (l.map D.int)=some l
 |[]=>rfl
 |x::r=>by rw[map_cons,a3T,a3S r];rfl
theorem b2T{l:List Int}:biD .sum (h++[.lst (l.map D.int)]) [.ref h.length]=.ok (.int l.sum) (h++[.lst (l.map D.int)]):=by
 simp only[biD,b6,a0l,a3S]
theorem a9W(cs:List Ce):(cs.map fun c=>(c.k:Int)).sum=(M1 cs:Int):=by
 unfold M1
 induction cs with
 |nil=>rfl
 |cons c r ih=>rw[map_cons,sum_cons,map_cons,sum_cons,ih];omega
theorem rd_of{l:List D}(e:h[n]? =some (.lst l)):rdL h n=some l:=by unfold rdL;rw[e]
theorem a7Z{l:List D}(e:h[n]? =some (.lst l)):biD .list h [.ref n]=.ok (.ref h.length) (h++[.lst l]):=by
 simp only[biD,e,rd_of e,o5]
theorem Pf.split{a b:AH}(p:Pf a b):∃t,b=a++t:=⟨b.drop a.length,by
 have:=take_append_drop a.length b
 rw[p.take] at this;exact this.symm⟩
theorem b8M{p:Int×Int}:op2 .ne h (spD p) (spD p)=.ok (.bl false) h:=by
 show a1g h (spD p) (spD p)=_
 unfold a1g;rw[show eqS (spD p) (spD p)=none from rfl,ay (by simp[spD,a7G,B7])]
section
variable{F:Nat->Option Fn}
theorem nei{i:Int}:op2 .ne h (.int i) (.int i)=.ok (.bl false) h:=by
 show a1g h (.int i) (.int i)=_
 simp[a1g,eqS]
structure PF2(F:Nat->Option Fn):Prop where
 f33:F 33=some F0
 f34:F 34=some F6
 f35:F 35=some G1
 f36:F 36=some a3b
 f37:F 37=some G2
 f38:F 38=some J5
 f39:F 39=some O7
 f40:F 40=some a0R
 f41:F 41=some a0s
 f43:F 43=some J6
 f44:F 44=some B8
 f45:F 45=some K4
 f46:F 46=some M9
 f47:F 47=some K5
 f48:F 48=some I0
 f49:F 49=some Q8
 f50:F 50=some K6
 f51:F 51=some F5
 f52:F 52=some M8
 f219:F 219=some N1
theorem b2V{k q s c v m p:Nat}{T tx:D}{H:HL}{e8 e10:Option D}(W2:PF2 F)(t1:∀h,ixD h T (.int 1)=.ok (.ref m) h)(t2:∀h,ixD h T (.int 2)=.ok (.ref p) h)(K:HLok H)(A:HallAt h n (a0a H))(hm:h[m]? =some (.lst (H.mr.map mkD)))(hp:h[p]? =some (.lst (H.pt.map ptD)))(hq:h[q]? =some (.dict (kd (hM H.mr))))(C:Ch cs)(hw:h[c]? =some (.lst (cs.map ceD)))(hv:h[v]? =some (.lst (ws.map .str)))(hs:ws.length=M1 cs)(hr:∀w∈ws,Lr w)(hl:cs.length<=63)(hc:∀c∈cs,c.n∈H.sh.map (·.1))(hml:H.mr.length<=1000):
 ∃x8 x9 x10 h',exs ct (b0 ct F (k+4)) lwB [~~~s,some T,~~~n,some tx,~~~q,~~~c,~~~v,some (.str way),e8,e9,e10] h=.ok (.nx [~~~s,some T,~~~n,some tx,~~~q,~~~c,~~~v,some (.str way),x8,x9,x10]) h'/\Pf h h':=by
 have la:∀{h:AH} {a b:Nat},HallAt h n (a0a H)->h[a]? =some (.lst (cs.map ceD))->h[b]? =some (.lst (ws.map .str))->b0 ct F (k+4) 36 [.ref n,.ref a,.ref b,.str way] h=.ok (.ref h.length) (h++[.lst ((List.range cs.length).map fun j=>spD (G4 H.sh cs (plc (H.mr.map (·.n)) cs ws way) H.mr H.pt j))]):=fun A1 ha hb=>b3U (ct:=ct) (F:=F) (k:=k) (way:=way) W2.f33 W2.f34 W2.f35 W2.f36 W2.f37 W2.f38 W2.f39 W2.f40 W2.f41 K A1 C ha hb hs hr hl hc
 have nm:(H.mr.map (·.n)).Nodup:=K.mr.nodup K.sh.nd
 have sb:∀j,j<cs.length->((J3 H.sh cs (plc (H.mr.map (·.n)) cs ws way) j).isSome=!decide (cnA cs j∈H.mr.map (·.n))):=fun j hj=>by
  rw[a3E]
  have e:isB (H.mr.map (·.n)) cs j=!decide (cnA cs j∈H.mr.map (·.n)):=by unfold isB cnA;rw[af hj]
  rw[←e]
  cases q:isB (H.mr.map (·.n)) cs j with
  |true=>exact bm (a6Q.mpr ⟨hj,q⟩)
  |false=>exact bB fun z=>by rw[(a6Q.mp z).2] at q;cases q
 have mf:=fun j hj=>a9g (pt:=H.pt) sb (fun x hx=>by
  obtain⟨y,hy,e,_⟩:=a2w (k:=fun m:Mk=>m.n) hx
  unfold o9;rw[e];exact(K.mko y hy).1) (j:=j) hj
 generalize plc (H.mr.map (·.n)) cs ws way=P at la mf sb
 have l1:=a7Z hw
 have a1:(h++[Cell.lst (cs.map ceD)])[h.length]? =some (.lst (cs.map ceD)):=b6
 have l2:=a7Z (b5 (g:=[Cell.lst (cs.map ceD)]) hv)
 have b1:(h++[Cell.lst (cs.map ceD)]++[Cell.lst (ws.map .str)])[(h++[Cell.lst (cs.map ceD)]).length]? =some (.lst (ws.map .str)):=b6
 have a2:=b5 (g:=[Cell.lst (ws.map .str)]) a1
 have P1:Pf h (h++[Cell.lst (cs.map ceD)]++[Cell.lst (ws.map .str)]):=((Pf.refl h).app _).app _
 have A1:=(A.app [Cell.lst (cs.map ceD)]).app [Cell.lst (ws.map .str)];generalize h.length=a at a2 l1;generalize (h++[Cell.lst (cs.map ceD)]).length=b at b1 l2;generalize h++[Cell.lst (cs.map ceD)]++[Cell.lst (ws.map .str)]=x0 at a2 b1 l2 P1 A1;have ld:=la A1 a2 b1
 have d1:(x0++[Cell.lst ((List.range cs.length).map fun j=>spD (G4 H.sh cs P H.mr H.pt j))])[x0.length]? =some (.lst ((List.range cs.length).map fun j=>spD (G4 H.sh cs P H.mr H.pt j))):=b6
 replace P1:=P1.app [Cell.lst ((List.range cs.length).map fun j=>spD (G4 H.sh cs P H.mr H.pt j))]
 generalize x0.length=f at ld d1;generalize x0++[Cell.lst ((List.range cs.length).map fun j=>spD (G4 H.sh cs P H.mr H.pt j))]=x1 at ld d1 P1
 unfold lwB;rw[seq (env':=[~~~s,some T,~~~n,some tx,~~~q,~~~c,~~~v,some (.str way),~~~f,e9,e10]) (h':=x1) (by simp_arith[l1,l2,ld])]
 have il:b1v x1 (.ref f)=true:=by simp only[b1v,d1]
 have lf:biD .len x1 [.ref f]=.ok (.int (cs.length:Int)) x1:=by rw[A9 d1,aa,aI]
 have lw:biD .len x1 [.ref c]=.ok (.int (cs.length:Int)) x1:=by rw[A9 (P1.at hw),aa]
 rw[seq (env':=[~~~s,some T,~~~n,some tx,~~~q,~~~c,~~~v,some (.str way),~~~f,e9,e10]) (h':=x1) (by simp_arith[b7d,il,Bool.not_true,lf,lw,nei])]
 obtain⟨env',g',q1,y9,y10,rfl,hg⟩:=B6 (g:=[]) (p:=.nm 9) (body:=exs ct (b0 ct F (k+4)) lwI) (fun j env hh=>∃y9 y10,env=[~~~s,some T,~~~n,some tx,~~~q,~~~c,~~~v,some (.str way),~~~f,y9,y10]/\hh=x1) (fun j env hh hP=>rfl) ((List.range cs.length).map fun i=>D.int ((0:Int)+(i:Nat))) 0 [~~~s,some T,~~~n,some tx,~~~q,~~~c,~~~v,some (.str way),~~~f,e9,e10] x1 (fun j x env hh hx hQ=>by
  obtain⟨y9,y10,rfl,rfl⟩:=hQ;rw[aj] at hx
  obtain⟨p',hp',rfl⟩:=Option.map_eq_some_iff.mp hx;obtain⟨z1,z2⟩:=ac.mp hp'
  rw[List.getElem_range] at z2;rw[aI] at z1;subst z2;rw[Int.zero_add]
  have nn:cnA cs j=cs[j].n:=by unfold cnA;rw[af z1]
  have i1:ixD hh (.ref c) (.int (j:Int))=.ok (ceD cs[j]) hh:=B9 (P1.at hw) (by rw[aj,af z1];rfl)
  have ce:=ce0 (c:=cs[j]) (h:=hh);rw[←nn] at ce
  have i2:ixD hh (.ref f) (.int (j:Int))=.ok (spD (G4 H.sh cs P H.mr H.pt j)) hh:=B9 d1 (by rw[aj,aJ z1];rfl)
  have ik:=a0B (k:=cnA cs j) (P1.at hq);rw[show(hM H.mr).map (·.1)=H.mr.map (·.n) from a1D _ _ _] at ik
  by_cases e:cnA cs j∈H.mr.map (·.n)
  · rw[bm e] at ik;obtain⟨_,im⟩:=a8b (P1.at hq) e;have fo:=b4q (ct:=ct) (k:=k+3) W2.f219 t1 t2 (P1.at hm) (P1.at hp) (P1.at hw) d1 nm K.pt hml (by have:=K.ptl;omega) hl z1 e
    rw[←mf j z1 e] at fo;refine⟨_,[~~~s,some T,~~~n,some tx,~~~q,~~~c,~~~v,some (.str way),~~~f,j⁻¹,some (spD (o9 H.mr (cnA cs j)).a)],_,rfl,?_,_,_,rfl,rfl⟩
    show exs ct (b0 ct F (k+4)) lwI [~~~s,some T,~~~n,some tx,~~~q,~~~c,~~~v,some (.str way),~~~f,j⁻¹,y10] hh=_
    unfold lwI;simp_arith[i1,ce,op2,ik,im,b2K,i2,sp0,sp1,l7,ay (show 2<=SL by decide),fo]
    have nq:=b8M (h:=hh) (p:=y0 (G4 H.sh cs P H.mr H.pt j) (o9 H.mr (cnA cs j)).a);simp only[op2] at nq;rw[show D.tup [D.int ((G4 H.sh cs P H.mr H.pt j).1+(o9 H.mr (cnA cs j)).a.1),D.int ((G4 H.sh cs P H.mr H.pt j).2+(o9 H.mr (cnA cs j)).a.2)]=spD (y0 (G4 H.sh cs P H.mr H.pt j) (o9 H.mr (cnA cs j)).a) from rfl,nq];simp_arith[]
  · rw[bB e] at ik;refine⟨_,[~~~s,some T,~~~n,some tx,~~~q,~~~c,~~~v,some (.str way),~~~f,j⁻¹,y10],_,rfl,?_,_,_,rfl,rfl⟩
    show exs ct (b0 ct F (k+4)) lwI [~~~s,some T,~~~n,some tx,~~~q,~~~c,~~~v,some (.str way),~~~f,j⁻¹,y10] hh=_
    unfold lwI;simp_arith[i1,ce,op2,ik]) ⟨e9,e10,rfl,rfl⟩
 rw[hg] at q1;refine⟨~~~f,y9,y10,x1,?_,P1⟩
 simp_arith[lw,a0J (show cs.length<=1000000 by omega),q1]
variable(W:PF F)
include W
theorem b6A{d:Nat}(hns:ns.length<=63)(W2:PF2 F)(f201:F 201=some w8)(f202:F 202=some l0)(f203:F 203=some k7)(f204:F 204=some v8)(f205:F 205=some t8)(f206:F 206=some A8)(f207:F 207=some w5)(f208:F 208=some u5)(f209:F 209=some u6)(f211:F 211=some z9)(f212:F 212=some F9)(f213:F 213=some w6)(f215:F 215=some C2)(f217:F 217=some D6)(f218:F 218=some F8)(f222:F 222=some a6o)(hin:ct.init 6=32):∃h',b0 ct F (d+11) 222 [.ref 0] [.rol (ns.map .int)]=.ok (.bl true) h':=by
 generalize hg0:[Cell.rol (ns.map .int)]=g0
 have hr:g0[0]? =some (.rol (ns.map .int)):=by rw[←hg0];rfl
 obtain⟨H,g,a,b,c,d',e,f,i,j,K,P0,A,hH⟩:=b4g (ct:=ct) (k:=d+7) (n:=0) (m:=0) (ns:=ns) (h:=g0) f201 f202 f203 f204 f205 f206 f207 f208 f209 f211 f212 hr rfl;have hT:=b1C (ct:=ct) (k:=d+8) K f213 f215 A;obtain⟨h,ht,hA,hR⟩:=a4D (ct:=ct) (d:=d+8) (h:=g) (text:=M5 H) (H':=a0a H) W hin (by have:=b2H K;omega) (by rw[a8G K];exact a8U W K)
 have P1:Pf g h:=⟨by rw[←ht,aM];omega,fun i hi=>by
  have:(h.take g.length)[i]? =g[i]? :=by rw[ht]
  rw[←this,bE hi]⟩
 have as:=P1.at A.sh;have am:=P1.at A.mr;have a0:=P1.at (P0.at hr)
 have t0:∀h,ixD h (.tup [.ref a,.ref b,.ref c,.ref d',.ref e,.ref f,.ref i,.ref j]) (.int 0)=.ok (.ref a) h:=fun h=>ix_tup (i:=0) rfl
 have t1:∀h,ixD h (.tup [.ref a,.ref b,.ref c,.ref d',.ref e,.ref f,.ref i,.ref j]) (.int 1)=.ok (.ref b) h:=fun h=>ix_tup (i:=1) rfl
 have t2:∀h,ixD h (.tup [.ref a,.ref b,.ref c,.ref d',.ref e,.ref f,.ref i,.ref j]) (.int 2)=.ok (.ref c) h:=fun h=>ix_tup (i:=2) rfl
 generalize hTt:D.tup [.ref a,.ref b,.ref c,.ref d',.ref e,.ref f,.ref i,.ref j]=T at hH hT t0 t1 t2;have tq:=b4Z (ct:=ct) (F:=F) (k:=d+6) K hA W2.f43 W2.f44 W2.f45 W2.f46 W2.f47 W2.f48 W2.f49 W2.f50 W2.f51 W2.f52
 have ml:H.mr.length<=1000:=by
  have:=K.mr.length_le
  rw[aa,aa] at this
  have:=K.sh.hi
  omega
 have ap:=P1.at A.pt;have dd:=b5g (ct:=ct) (c:=b0 ct F (d+10)) (i:=1) (env:=[some (.ref 0),some T,~~~g.length,some (.str (M5 H)),none,none,none,none,none,none,none]) rfl t1 am (K.mr.nodup K.sh.nd) ml
 have PQ:Pf h (h++[.lst ((hM H.mr).map fun p=>D.tup [.str p.1,p.2])]++[.dict (kd (hM H.mr))]):=((Pf.refl h).app _).app _
 have aQ:(h++[Cell.lst ((hM H.mr).map fun p=>D.tup [.str p.1,p.2])]++[Cell.dict (kd (hM H.mr))])[h.length+1]? =some (.dict (kd (hM H.mr))):=by
  rw[show h.length+1=(h++[Cell.lst ((hM H.mr).map fun p=>D.tup [.str p.1,p.2])]).length by simp]
  exact b6
 replace hA:=(hA.app [Cell.lst ((hM H.mr).map fun p=>D.tup [.str p.1,p.2])]).app [Cell.dict (kd (hM H.mr))]
 generalize h.length+1=q at dd aQ;generalize h++[Cell.lst ((hM H.mr).map fun p=>D.tup [.str p.1,p.2])]++[Cell.dict (kd (hM H.mr))]=h0 at dd aQ hA PQ
 replace as:=PQ.at as
 replace am:=PQ.at am
 replace ap:=PQ.at ap
 replace a0:=PQ.at a0
 obtain⟨cs,⟨c1,C⟩,c2,c3⟩:=b2n (ct:=ct) (k:=d+8) f202 f217 hns K.sh a0 as
 have aS:(h0++[Cell.lst (cs.map ceD)])[h0.length]? =some (.lst (cs.map ceD)):=b6
 replace aQ:=b5 (g:=[.lst (cs.map ceD)]) aQ
 replace am:=b5 (g:=[.lst (cs.map ceD)]) am
 replace ap:=b5 (g:=[.lst (cs.map ceD)]) ap
 replace a0:=b5 (g:=[.lst (cs.map ceD)]) a0
 replace hA:=hA.app [.lst (cs.map ceD)]
 generalize h0.length=s at c3 aS;generalize h0++[Cell.lst (cs.map ceD)]=x1 at c3 aS am ap a0 hA aQ
 have ck:ev ct (b0 ct F (d+10)) lwK [some (.ref 0),some T,~~~g.length,some (.str (M5 H)),~~~q,~~~s,none,none,none,none,none] x1=.ok (.ref x1.length) (x1++[.lst ((cs.map fun c=>(c.k:Int)).map .int)]):=by
  unfold lwK
  rw[v7 (l:=cs.map ceD) (g:=[(s,.lst (cs.map ceD))]) (h1:=x1) (by simp_arith[V6,aS]) (by simp only[gOk,all_cons,all_nil,aS];simp) (fun x=>match x with
   |.tup [_,.tup l]=>.int (l.length:Int)
   |_=>.non) (fun x=>[some x]) (fun x hx=>by
   obtain⟨c,_,rfl⟩:=ak.mp hx;refine⟨rfl,?_⟩
   simp_arith[ce1,a4P]
   show R.ok (D.int (c.k:Int)) x1=R.ok (D.int ((rngD (c.lo:Int) c.k).length:Int)) x1
   rw[a4C]) (by rw[aa];show _<=16777216;omega)]
  congr 2;rw[aH,aH];congr 2;refine bc fun c _=>?_
  show D.int ((rngD (c.lo:Int) c.k).length:Int)=D.int (c.k:Int)
  rw[a4C]
 have sm:=b2T (h:=x1) (l:=cs.map fun c=>(c.k:Int))
 rw[a9W] at sm
 have kl:M1 cs<=300:=by
  have:∀l:List Ce,(∀c∈l,c.k<=4)->M1 l<=4*l.length:=fun l=>by
   induction l with
   |nil=>intro _;exact ai _
   |cons c r ih=>
    intro hh
    have:=ih fun x hx=>hh x (.tail _ hx)
    have:=hh c (.head _)
    unfold M1 at*
    rw[map_cons,sum_cons,length_cons];omega
  have:=this cs fun c hc=>by
   obtain⟨t,ht⟩:=bj hc
   exact(C.lo t c ht).2
  omega
 obtain⟨ws,w1,w2,w3⟩:=b2F (ct:=ct) (k:=d+8) (T:=M1 cs) f201 f202 f218 (b5 (g:=[.lst ((cs.map fun c=>(c.k:Int)).map .int)]) a0) kl
 replace aS:=b5 (g:=[.lst ((cs.map fun c=>(c.k:Int)).map .int)]) aS
 replace aQ:=b5 (g:=[.lst ((cs.map fun c=>(c.k:Int)).map .int)]) aQ
 replace am:=b5 (g:=[.lst ((cs.map fun c=>(c.k:Int)).map .int)]) am
 replace ap:=b5 (g:=[.lst ((cs.map fun c=>(c.k:Int)).map .int)]) ap
 replace hA:=hA.app [.lst ((cs.map fun c=>(c.k:Int)).map .int)]
 generalize x1.length=y1 at ck sm;generalize x1++[Cell.lst ((cs.map fun c=>(c.k:Int)).map .int)]=x2 at ck sm aS am ap hA w3 aQ
 have aW:(x2++[Cell.lst (ws.map .str)])[x2.length]? =some (.lst (ws.map .str)):=b6
 replace aS:=b5 (g:=[.lst (ws.map .str)]) aS
 replace aQ:=b5 (g:=[.lst (ws.map .str)]) aQ
 replace am:=b5 (g:=[.lst (ws.map .str)]) am
 replace ap:=b5 (g:=[.lst (ws.map .str)]) ap
 replace hA:=hA.app [.lst (ws.map .str)]
 generalize x2.length=v at w3 aW;generalize x2++[Cell.lst (ws.map .str)]=x3 at w3 aS am ap hA aW aQ
 replace aS:=b5 (g:=[.lst [.str "left",.str "right"]]) aS
 replace aQ:=b5 (g:=[.lst [.str "left",.str "right"]]) aQ
 replace am:=b5 (g:=[.lst [.str "left",.str "right"]]) am
 replace ap:=b5 (g:=[.lst [.str "left",.str "right"]]) ap
 replace aW:=b5 (g:=[.lst [.str "left",.str "right"]]) aW
 replace hA:=hA.app [.lst [.str "left",.str "right"]]
 have aL:(x3++[Cell.lst [.str "left",.str "right"]])[x3.length]? =some (.lst [.str "left",.str "right"]):=b6
 obtain⟨env',h',q1,y7,y8,y9,y10,rfl,q2⟩:=B6 (g:=[(x3.length,.lst [.str "left",.str "right"])]) (p:=.nm 7) (body:=exs ct (b0 ct F (d+10)) lwB) (fun j env hh=>∃y7 y8 y9 y10,env=[some (.ref 0),some T,~~~g.length,some (.str (M5 H)),~~~q,~~~s,~~~v,y7,y8,y9,y10]/\Pf (x3++[Cell.lst [.str "left",.str "right"]]) hh) (fun j env hh hP=>by
  obtain⟨_,_,_,_,_,P⟩:=hP
  have:=P.at aL
  simp only[gOk,all_cons,all_nil,this]
  simp) [.str "left",.str "right"] 0 [some (.ref 0),some T,~~~g.length,some (.str (M5 H)),~~~q,~~~s,~~~v,none,none,none,none] (x3++[Cell.lst [.str "left",.str "right"]]) (fun j x env hh hx hP=>by
  obtain⟨y7,y8,y9,y10,rfl,P⟩:=hP
  obtain⟨way,rfl⟩:∃way:Str,x=.str way:=by
   rcases aE.mp (aG hx) with rfl|hx
   · exact⟨_,rfl⟩
   · obtain rfl:=aP.mp hx;exact⟨_,rfl⟩
  have hA':HallAt hh g.length (a0a H):=by
   obtain⟨t,rfl⟩:=P.split;exact hA.app t
  obtain⟨x8,x9,x10,h',st,P'⟩:=b2V (ct:=ct) (F:=F) (k:=d+6) (s:=0) (T:=T) (tx:=.str (M5 H)) (way:=way) (e8:=y8) (e9:=y9) (e10:=y10) W2 t1 t2 K hA' (P.at am) (P.at ap) (P.at aQ) C (P.at aS) (P.at aW) w1 w2 c2 c1 ml;exact⟨_,_,_,rfl,st,_,_,_,_,rfl,P.trans P'⟩) ⟨_,_,_,_,rfl,Pf.refl _⟩
 have hA':HallAt h' g.length (a0a H):=by
  obtain⟨t,rfl⟩:=q2.split;exact hA.app t
 have te:=b4Z (ct:=ct) (F:=F) (k:=d+6) K hA' W2.f43 W2.f44 W2.f45 W2.f46 W2.f47 W2.f48 W2.f49 W2.f50 W2.f51 W2.f52
 have eq:op2 .eq h' (.str (M5 H)) (.str (M5 H))=.ok (.bl true) h':=by
  simp[op2,K0,eqS]
 rw[i6 f222 rfl];rw[a6o]
 show∃h',gcR 0 g0 (Q4 (exs ct (b0 ct F (d+10)) _ [some (.ref 0),none,none,none,none,none,none,none,none,none,none] g0))=_
 rw[gc0];refine⟨h',?_⟩
 rw[seq (env':=[some (.ref 0),some T,none,none,none,none,none,none,none,none,none]) (h':=g) (by simp_arith[show b0 ct F (d+10) 212 [.ref 0,.int 0] g0=.ok T g from hH])]
 rw[seq (env':=[some (.ref 0),some T,~~~g.length,none,none,none,none,none,none,none,none]) (h':=h) (by simp_arith[hT,hR])]
 rw[seq (env':=[some (.ref 0),some T,~~~g.length,some (.str (M5 H)),none,none,none,none,none,none,none]) (h':=h) (by simp_arith[tq])]
 rw[seq (env':=[some (.ref 0),some T,~~~g.length,some (.str (M5 H)),~~~q,none,none,none,none,none,none]) (h':=h0) (by rw[a0S,dd];rfl)]
 rw[seq (env':=[some (.ref 0),some T,~~~g.length,some (.str (M5 H)),~~~q,~~~s,none,none,none,none,none]) (h':=x1) (by simp_arith[t0,c3])]
 rw[seq (env':=[some (.ref 0),some T,~~~g.length,some (.str (M5 H)),~~~q,~~~s,~~~v,none,none,none,none]) (h':=x3) (by simp_arith[ck,sm,w3])]
 rw[seq (env':=_) (h':=h') (by simp_arith[o5,V6,aL,q1];rfl)]
 simp_arith[te,eq]
end
end EV
namespace K40
open PySem L2 EV
theorem pf:PF F:=⟨rfl,rfl,rfl,rfl,rfl,rfl,rfl,rfl,rfl,rfl,rfl,rfl,rfl,rfl,rfl,rfl,rfl,rfl,rfl,rfl,rfl,rfl⟩
theorem pf2:PF2 F:=⟨rfl,rfl,rfl,rfl,rfl,rfl,rfl,rfl,rfl,rfl,rfl,rfl,rfl,rfl,rfl,rfl,rfl,rfl,rfl,rfl⟩
end K40
theorem a7d:∀ns:List Int,ns.length<=63->∃h',EV.b0 K40.ct K40.F 20 222 [.ref 0] [.rol (ns.map .int)]=.ok (.bl true) h':=fun ns hl=>EV.b6A (d:=9) K40.pf hl K40.pf2 rfl rfl rfl rfl rfl rfl rfl rfl rfl rfl rfl rfl rfl rfl rfl rfl rfl
open PySem PySem.W PyProof.Rows
end
namespace PySem.W.Fast
def tw16001003614742980055:Nat:=0
def tw3094701115853657799:Nat:=0
def tw9332987534668789632:Nat:=0
def tw1647960591809683682:Nat:=0
def tw9032336229301285499:Nat:=0
def tw14744433582856122960:Nat:=0
def tw17719364405881837276:Nat:=0
def tw249544735940254359:Nat:=0
def tw3699721879717830906:Nat:=0
def tw6148467805673515791:Nat:=0
def tw3555141088238359772:Nat:=0
def tw3103751414666246812:Nat:=0
def tw8247945609908704884:Nat:=0
def tw4006126910494036212:Nat:=0
def tw2947586027576077979:Nat:=0
def tw3603605348021866008:Nat:=0
def tw12857750549838433791:Nat:=0
def tw17837415989878807268:Nat:=0
def tw3871590986955078291:Nat:=0
def tw1463808809291474144:Nat:=0
def tw5055051069096525434:Nat:=0
def tw5260856337621036202:Nat:=0
def tw14889595167817102546:Nat:=0
def tw6017506618534441898:Nat:=0
def tw1901531775752417231:Nat:=0
def tw11712190458185945011:Nat:=0
def tw3369663099759083609:Nat:=0
def tw16919330064296535691:Nat:=0
def tw6429450841261186155:Nat:=0
def tw6582134788679801411:Nat:=0
def tw6012122021747098740:Nat:=0
def tw12694112234171929671:Nat:=0
def tw69414778264802052:Nat:=0
def tw4636031889025220839:Nat:=0
def tw13698048360955963301:Nat:=0
def tw10780761586765376359:Nat:=0
def tw17847650733935569616:Nat:=0
def tw14048895322960730393:Nat:=0
def tw9563574807059059695:Nat:=0
def tw1906743188756502811:Nat:=0
def tw12976177241038019767:Nat:=0
def tw12004313012329915033:Nat:=0
def tw9685044298169568939:Nat:=0
def tw3285859953031059425:Nat:=0
def tw7158441374720773216:Nat:=0
def tw6606014719576569030:Nat:=0
def tw13426244417702134072:Nat:=0
def tw4038909232737020655:Nat:=0
def tw802917404587063742:Nat:=0
def tw5488966160659634681:Nat:=0
def tw15248526436251307398:Nat:=0
def tw13359630831485827548:Nat:=0
def tw1820406046763328738:Nat:=0
def tw17643754061406199020:Nat:=0
def tw5266450434754204200:Nat:=0
def tw9840342860782594374:Nat:=0
def tw1385777081429181588:Nat:=0
def tw15845117809764550140:Nat:=0
def tw9986627191518016938:Nat:=0
def tw11187973929812520656:Nat:=0
def tw10131873952172028942:Nat:=0
def tw16629561534657121264:Nat:=0
def tw5310652868755799522:Nat:=0
def tw7042659310547366237:Nat:=0
def tw4203021270051977171:Nat:=0
def tw1147522009701800784:Nat:=0
def tw8369868683130302868:Nat:=0
def tw8237626310708396552:Nat:=0
def tw3016012700857477809:Nat:=0
def tw10412780308102683651:Nat:=0
def tw15679247252792206210:Nat:=0
def tw5105673956185107153:Nat:=0
def tw10746989603658154836:Nat:=0
def tw11300376045408061371:Nat:=0
def tw12068798485007620914:Nat:=0
def tw14112606434462084385:Nat:=0
def tw12319047049370110589:Nat:=0
def tw5587484289544270231:Nat:=0
def tw14245618210516037357:Nat:=0
def tw9161490523856799436:Nat:=0
def tw7317234293075219:Nat:=0
def tw5680315236850328200:Nat:=0
def tw14949513074056673275:Nat:=0
def tw8174591469460913490:Nat:=0
def tw15886500619415505586:Nat:=0
def tw3664731896753646195:Nat:=0
def tw8605165415444627158:Nat:=0
def tw4584130408075211490:Nat:=0
def tw11887224372650548316:Nat:=0
def tw4475145619620083286:Nat:=0
def tw4952506757814975653:Nat:=0
def tw10209164474934016114:Nat:=0
def tw17338234738716814015:Nat:=0
def tw14398365135244066966:Nat:=0
def tw10241233070082051121:Nat:=0
def tw6664951462986138201:Nat:=0
def tw2337977823195543630:Nat:=0
def tw14374603453287560736:Nat:=0
def tw10896712999787139778:Nat:=0
def tw1620389302784492585:Nat:=0
def tw14064692534454641163:Nat:=0
def tw16607927582987124570:Nat:=0
def tw9192171586001469603:Nat:=0
def tw17960406059949683352:Nat:=0
def tw7942853410682446962:Nat:=0
def tw7215932318001415403:Nat:=0
def tw17845374550828520631:Nat:=0
def tw17004574920194074796:Nat:=0
def tw9835382159548102362:Nat:=0
def tw4621932581444047675:Nat:=0
def tw15223397061033166810:Nat:=0
def tw3345597093286824917:Nat:=0
def tw17334881123488906936:Nat:=0
def tw12941643214049860704:Nat:=0
def tw16968176118458789586:Nat:=0
def tw8553059368797141306:Nat:=0
def tw17513604867990543079:Nat:=0
def tw15943592676296772274:Nat:=0
def tw8426798971799828003:Nat:=0
def tw13553050674002434610:Nat:=0
def tw11002848052431835627:Nat:=0
def tw12434779806091606683:Nat:=0
def tw17624731456758155189:Nat:=0
def tw6737687440995333003:Nat:=0
def tw16655083059833703075:Nat:=0
def tw17119971604622065936:Nat:=0
def tw16932301668260661676:Nat:=0
def tw8160871880118814707:Nat:=0
def tw18221076124747093969:Nat:=0
def tw16408362238061914836:Nat:=0
def tw17427895641331663283:Nat:=0
def tw6731276024794131016:Nat:=0
def tw8454840944936950519:Nat:=0
def tw4033379813872489195:Nat:=0
def tw14613296582639449008:Nat:=0
def tw234749781942434899:Nat:=0
def tw5485572742587201778:Nat:=0
def tw17882641709403210578:Nat:=0
def tw17996964024917085871:Nat:=0
def tw5015507407206683207:Nat:=0
def tw8697654515486363317:Nat:=0
def tw15755044616229629136:Nat:=0
def tw7097827964152542560:Nat:=0
def tw7524379617451308511:Nat:=0
def tw12325562205625792791:Nat:=0
def tw17094580856887593759:Nat:=0
def tw7618804249908900691:Nat:=0
def tw6728313399510405491:Nat:=0
def tw17590088832654516399:Nat:=0
def tw16266442582153907279:Nat:=0
def tw6784790241324674965:Nat:=0
def tw3471986238504059686:Nat:=0
def tw2766794811542550618:Nat:=0
def tw16286715671046524454:Nat:=0
def tw12712400820596877648:Nat:=0
def tw15515405784836723652:Nat:=0
def tw14987661418082201831:Nat:=0
def tw1826987945724244988:Nat:=0
def tw16279701975793424917:Nat:=0
def tw1349388230604553621:Nat:=0
def tw13197444509695450237:Nat:=0
def tw14501001857826371202:Nat:=0
def tw18167724695441219349:Nat:=0
def tw16915470645016011554:Nat:=0
def tw9508736203920968164:Nat:=0
def tw11763852733077360975:Nat:=0
def tw17721039672839981703:Nat:=0
def tw12079628635447562283:Nat:=0
def tw10393078302967963895:Nat:=0
def tw10134030333460990790:Nat:=0
def tw729466047920990731:Nat:=0
def tw15213048550514571353:Nat:=0
def tw3638187344944282256:Nat:=0
def tw704147369595269066:Nat:=0
def tw7470021291188754609:Nat:=0
def tw12059592832596718669:Nat:=0
def tw12661032092557703082:Nat:=0
def tw14805814515597417852:Nat:=0
def tw11849525312028181438:Nat:=0
def tw15508019666092448443:Nat:=0
def tw16745343075639119971:Nat:=0
def tw17960848765466677729:Nat:=0
def tw12523711969749109062:Nat:=0
def tw17093224777342109595:Nat:=0
def tw3822784309164373692:Nat:=0
def tw6905212232875527693:Nat:=0
def tw17849293660312457548:Nat:=0
def tw6662249597110656733:Nat:=0
def tw3992908553847606798:Nat:=0
def tw14650769484350525481:Nat:=0
def tw12392129776423771058:Nat:=0
def tw2962324470309885386:Nat:=0
def tw1391549112126926301:Nat:=0
def tw2257529940240947247:Nat:=0
def tw5661640270340304354:Nat:=0
def tw16472409268878238316:Nat:=0
def tw4968929673044707356:Nat:=0
def tw8436589768386056944:Nat:=0
def tw2680141511932349947:Nat:=0
def tw10199354318988768051:Nat:=0
def tw14869557710840242666:Nat:=0
def tw14495299557687959983:Nat:=0
def tw12533650973541477374:Nat:=0
def tw7498633149979677338:Nat:=0
def tw2283480497557504744:Nat:=0
def tw6511239469406747073:Nat:=0
def tw3101917741504857134:Nat:=0
def tw5891177449180782854:Nat:=0
def tw3092117133297227249:Nat:=0
def tw11622863634709415212:Nat:=0
def tw7340446101256811000:Nat:=0
def tw7090585071989052306:Nat:=0
def tw5609530884314319229:Nat:=0
def tw2648174423076098445:Nat:=0
def tw14267268813261638861:Nat:=0
def tw15452572443179084588:Nat:=0
def tw17925384258215065573:Nat:=0
def tw8933567498414919238:Nat:=0
def tw13218621648322568166:Nat:=0
def tw5623994078177797194:Nat:=0
def tw12798869161161681673:Nat:=0
def tw10785849952161257653:Nat:=0
def tw4491058772748593153:Nat:=0
def tw10700183255674453818:Nat:=0
def tw5681066748535004433:Nat:=0
def tw16970792351503237766:Nat:=0
def tw16118103595353321548:Nat:=0
def tw4026151001005817321:Nat:=0
def tw8903238766108814736:Nat:=0
def tw734138898119960010:Nat:=0
def tw804092199982636349:Nat:=0
def tw13829591483307370896:Nat:=0
def tw9296360433889664002:Nat:=0
def tw4954584648838934644:Nat:=0
def tw2385268686561707046:Nat:=0
def tw13792483299354683862:Nat:=0
def tw12027893231959348502:Nat:=0
def tw3307598998989760257:Nat:=0
def tw16317983856663788926:Nat:=0
def tw8934421753687110507:Nat:=0
def tw8621301723031713458:Nat:=0
def tw7363425622247834253:Nat:=0
def tw1541540961381408409:Nat:=0
def tw13478877428745155630:Nat:=0
def tw10762484250532422250:Nat:=0
def tw9897558803702562313:Nat:=0
def tw9585978970863474492:Nat:=0
def tw8891557043749499067:Nat:=0
def tw8864380892348041232:Nat:=0
def tw8249347019533418915:Nat:=0
def tw8060744490709563079:Nat:=0
def tw6873971014812347169:Nat:=0
def tw6771182271545134960:Nat:=0
def tw671769174312181376:Nat:=0
def tw5835942142707902020:Nat:=0
def tw5613845454599061817:Nat:=0
def tw5552461122284547459:Nat:=0
def tw5427499738942290107:Nat:=0
def tw539595736760451978:Nat:=0
def tw4425046354534653865:Nat:=0
def tw4185518321428705831:Nat:=0
def tw4177351759533223642:Nat:=0
def tw3934833063311361131:Nat:=0
def tw3904583755211930517:Nat:=0
def tw3808584094389355786:Nat:=0
def tw3482820431698744051:Nat:=0
def tw3414106826494052011:Nat:=0
def tw3373145609055282853:Nat:=0
def tw305048472116853797:Nat:=0
def tw2927799364441409784:Nat:=0
def tw2133357390318303931:Nat:=0
def tw1998032249293215463:Nat:=0
def tw1948689806639624469:Nat:=0
def tw1833547357909804662:Nat:=0
def tw17857563459279650048:Nat:=0
def tw17802128708061929859:Nat:=0
def tw17619882183920601743:Nat:=0
def tw17456480263006714056:Nat:=0
def tw16803143847538834185:Nat:=0
def tw15854262060937163188:Nat:=0
def tw14790834132378566595:Nat:=0
def tw14731147920152588799:Nat:=0
def tw14199714164133228370:Nat:=0
def tw13887902116395311400:Nat:=0
def tw1354003750591732747:Nat:=0
def tw12532165626772418067:Nat:=0
def tw11973505968982382900:Nat:=0
def tw11843833423457600547:Nat:=0
def tw1173414789623836638:Nat:=0
def tw11586196018267737339:Nat:=0
def tw11320351676317602388:Nat:=0
def tw10846345724684618374:Nat:=0
def tw10693841506766600124:Nat:=0
def tw13454206069390132864:Nat:=0
def tw8164005668110941744:Nat:=0
def tw644751248652905101:Nat:=0
def tw5738919822854818926:Nat:=0
def tw4153491320931672185:Nat:=0
def tw3083371992184736890:Nat:=0
def tw2450569374399577549:Nat:=0
def tw15431134087688302020:Nat:=0
def tw14734032772098568817:Nat:=0
def tw13481268755573549168:Nat:=0
def tw1322031339247656150:Nat:=0
def tw12514039047250868702:Nat:=0
def tw11069628954808310989:Nat:=0
def tw10497823618577955822:Nat:=0
def tw16749348522385944071:Nat:=0
def tw16504757533647375273:Nat:=0
def tw5036445103931068615:Nat:=0
def tw10299302589577801163:Nat:=0
def tw11630328935867623959:Nat:=0
def tw2852278927748849453:Nat:=0
def tw9455475090630465045:Nat:=0
def tw8131721106225051767:Nat:=0
def tw7317576523658780031:Nat:=0
def tw6315216371427503177:Nat:=0
def tw3302770140995672700:Nat:=0
def tw2969480146181677978:Nat:=0
def tw2873748437651673626:Nat:=0
def tw16463793508043411602:Nat:=0
def tw15536387163757344236:Nat:=0
def tw13949155002146243131:Nat:=0
def tw13517250619966689955:Nat:=0
def tw13952158723898717365:Nat:=0
def tw17878424488110687958:Nat:=0
def tw11188117447681078326:Nat:=0
def tw9497945907656264259:Nat:=0
def tw4361700775904427359:Nat:=0
def tw10426125643436316091:Nat:=0
def tw6252695792229605141:Nat:=0
def tw5674458297940323589:Nat:=0
def tw316514102143019080:Nat:=0
def tw14442895186254868694:Nat:=0
def tw9515242367644423802:Nat:=0
def tw1176975735165151067:Nat:=0
def tw9601000219436670146:Nat:=0
def tw9156678896304099913:Nat:=0
def tw8008005557923197168:Nat:=0
def tw6708892414054319099:Nat:=0
end PySem.W.Fast
open_top head for PySem.Challenge.rw_glyphhall_k40_marks_stacked
theorem PySem.Challenge.cw_glyphhall_k40_marks_stacked_holds : PySem.Challenge.rw_glyphhall_k40_marks_stacked.Holds :=
 head (by
 refine K40.b7W (l:=PySem.Challenge.rw_glyphhall_k40_marks_stacked) (n:=63) (k:=46) (x:="_law_script") (CX:=fun _=>L2.CX0) (sp:=K40.spK) rfl (by decide) rfl ⟨rfl,by decide,by decide⟩ (fun w h Y=>PySem.W.kIn_of Y) ?F ?S ?C
 case F=>
  intro w mg fa h KX G hmg
  have T:∃cA,K40.DfE (L2.KOf KX) "law" (K40.top 98)/\∀{h:Heap} {mg:Str->Option Value},(L2.KOf KX).In h->h.Ns mainGlobals mg->EV.Stat PySem.Challenge.rw_glyphhall_k40_marks_stacked.prog w ⟨L2.KOf KX,cA,[6],[]⟩ K40.G K40.ct K40.F mg:=by
   dsimp only[L2.KOf]
   clear hmg
   refine' K40.b2X ?a0 ?a1 ?a2 ?a3 ?a4 ?a5 ?a6 ?a7 ?a8 ?a9 ?a10 ?a11 ?a12 ?a13 ?a14 ?a15 ?a16 ?a17 ?a18 ?a19 ?a20 ?a21 ?a22 ?a23 ?a24 ?a25 ?a26 ?a27 ?a28 ?a29 ?a30 ?a31 ?a32 ?a33 ?a34 ?a35 ?a36 ?a37 ?a38 ?a39 ?a40 ?a41 ?a42 ?a43 ?a44 ?a45 ?a46 ?a47 ?a48 ?a49 ?a50 ?a51 ?a52 ?a53 ?a54 ?a55 ?a56 ?a57 ?a58 ?a59 ?a60 ?a61 ?a62 ?a63 ?a64 ?a65 ?a66 ?a67 ?a68 ?a69 ?a70 ?a71 ?a72 ?a73 ?a74 ?a75 ?a76 ?a77 ?a78 ?a79 ?a80 ?a81 ?a82 ?a83 ?a84 ?a85 ?a86 ?a87 ?a88 ?a89 ?a90 ?a91 ?a92 ?a93 ?a94 ?a95 ?a96
   (case a0|a75|a76|a77|a78|a79|a80|a81|a82|a83|a84|a85|a86|a87|a88|a89|a90|a91|a92|a93|a94|a95|a96=>k_is)
   (case a1|a2|a3|a4|a5|a6|a7|a8|a9|a10|a11|a12|a13|a14|a15|a16|a17|a18|a19|a20|a21|a22|a23|a24|a25|a26|a27|a28|a29|a30|a31|a32|a33|a34|a35|a36|a37|a38|a39|a40|a41|a42|a43|a44|a45|a46|a47|a48|a49|a50|a51|a52|a53|a54|a55|a56|a57|a58|a59=>refine' K40.b9n ?x ?y ?z ?u;(case x=>k_is);(case y=>k_is);(case z=>k_is);(case u=>k_is))
   (case a60|a61=>refine' K40.b5A ?e1;(case e1=>k_is))
   (case a62|a63|a64|a65|a66|a67|a68=>refine' K40.b6M ?e1;(case e1=>k_is))
   (case a69|a70=>refine' K40.b2J ?e1 ?e2;(case e1=>k_is);(case e2=>k_is))
   (case a71=>refine' K40.b2I ?e1 ?e2;(case e1=>k_is);(case e2=>k_is))
   (case a72=>refine' K40.b4J ?e1 ?e2 ?e3 ?e4 ?e5 ?e6 ?e7 ?e8;(case e1=>k_is);(case e2=>k_is);(case e3=>decide);(case e4=>rfl);(case e5=>rfl);(case e6=>rfl);(case e7=>rfl);(case e8=>decide))
   (case a73=>refine' K40.b4h ?m1 ?m2 ?m3 ?m4 ?e2 ?e3 ?e4;(case m1=>k_is);(case m2=>k_is);(case m3=>k_is);(case m4=>k_is);(case e2=>k_is);(case e3=>k_is);(case e4=>k_is))
   (case a74=>refine' ⟨?p1,?p2,?p3,?p4⟩;(case p1=>k_is);(case p2=>k_is);(case p3=>k_is);(case p4=>k_is))
  obtain⟨cA,D,T⟩:=T;obtain⟨fd,h1,h2⟩:=K40.b6V D (T KX G) KX G hmg;exact⟨fd,h1,fun base _ _=>h2 base⟩
 case S=>
  intro w H a ns hl hO hS;refine K40.b6z a7d ?nl hl hO hS
  (case nl=>kernel_rfl)
 case C=>exact fun w H s e s' z=>z)
