import PyProof.Rows.All
import Wide.All
import OpenK.AllK
import Wide.FinOn
import PyProof.EqAt
import PyProof.EqKinds
import PyProof.TupleCall
import OpenK.KOwn
import PyProof.CompUse
import PyProof.NeKinds
import PyProof.StrOps2
import KE.KDictOf
import PyProof.AttrMissHeap
import PyProof.ListRange
import PyProof.TupleOfGen
import PyProof.CollectStr
import KE.KRevIter
import PyProof.StrLawsTight
import PyProof.StrLawsChain
import PyProof.StrLawsIn
import PyProof.StrLawsIdx
import PyProof.Rows.CatFin
import PyProof.Rows.StrItems
import KE.IntTextLaws
import PyProof.Rows.ReprOcc
import PyProof.FitsInt
import KE.KIntText
import Lean
import PySem.Challenge.RW_glyphhall_k23_all_features_off
set_option Elab.async false
set_option linter.all false
set_option maxRecDepth 100000
set_option maxHeartbeats 0
def aa:=@List.length_map
def ac:=@List.getElem?_eq_some_iff
def ae:=@Bool.and_eq_true
def ai:=@List.getElem?_eq_getElem
def aj:=@Nat.le_refl
def ak:=@List.getElem?_map
def ao:=@List.mem_map
def aq:=@List.map_append
def au:=@List.length_append
def av:=@List.getElem?_append_right
def aw:=@List.getElem?_append_left
def ax:=@of_decide_eq_true
def ay:=@Option.some.inj
def az:=@if_pos
def aA:=@if_neg
def aB:=@List.append_assoc
def aC:=@Nat.zero_add
def aE:=@Nat.lt_of_lt_of_le
def aF:=@List.mem_cons_of_mem
def aH:=@List.mem_cons
def aI:=@List.mem_of_getElem?
def aK:=@List.map_map
def aL:=@List.length_range
def aM:=@List.getElem?_range
def aN:=@List.mem_append
def aO:=@List.length_take
def aQ:=@List.mem_range
def aR:=@List.mem_singleton
def aT:=@Nat.lt_irrefl
def aU:=@Nat.le_trans
def aV:=@Nat.lt_succ_self
def aW:=@Nat.le_of_not_lt
def aX:=@List.nodup_cons
def aY:=@List.getElem?_eq_none
def aZ:=@List.map_congr_left
def ba:=@List.mem_cons_self
def bc:=@List.append_nil
def bf:=@decide_eq_true
def bg:=@Nat.min_eq_left
def bh:=@List.take_length
def bj:=@List.take_of_length_le
def bm:=@List.mem_filter
def bn:=@List.length_replicate
def bp:=@List.all_eq_true
def bq:=@List.any_eq_true
def br:=@Bool.or_eq_true
def bt:=@Bool.false_ne_true
def bu:=@List.getElem_mem
def bv:=@Int.natCast_add
def bw:=@List.length_filter_le
def bx:=@List.getD_eq_getElem?_getD
def bz:=@decide_eq_true_eq
def bA:=@decide_eq_false
def bB:=@List.length_drop
def bC:=@List.getElem?_take_of_lt
def bD:=@List.getElem?_replicate
open List (mem_append_left getElem_inj mem_append_right size_toArray length_cons map_cons of_mem_zip length_set all_cons any_cons length_singleton length_nil map_nil lookup_cons forIn_cons all_map not_mem_nil replicate_succ foldl_cons drop_eq_getElem_cons drop_zero forIn_nil nodup_append ext_getElem? length_eq_zero_iff nil_append nodup_nil isEmpty_iff drop_length cons_ne_nil cons_append map_id filter_map all_nil drop_succ_cons length_zip take_succ_eq_append_getElem take_append_drop take_zero map_drop map_take)
local macro_rules
  | `(↥$x) => `(($x).length)
local macro_rules
  | `(~~~$x) => `(some (.ref $x))
local macro_rules
  | `($x⁻¹) => `(some (.int ($x : Int)))
local macro_rules
  | `(∅) => `(by decide)
local macro_rules
  | `(nofun) => `(by ac_nf)
local macro_rules
  | `(⇑($x)) => `(.int (($x : Nat) : Int))
  | `(⇑$x) => `(.int ($x : Int))
local macro_rules
  | `(tactic| ac_nf) => `(tactic| first | assumption | exact Nat.le_trans (by assumption) (by decide) | exact Nat.lt_of_le_of_lt (by assumption) (by decide) | exact (Int.natCast_add _ _).symm | exact Nat.le_of_lt (by assumption) | omega)
local macro_rules
  | `($a >=> $b) => `(.cons $a $b)
local macro_rules
  | `(⋯) => `(by simp)
noncomputable section
set_option compiler.extract_closed false
namespace L2
open PySem PySem.Spec PyProof.Rows
abbrev Key:=Sum Int Str
noncomputable def a4y:Key->Value->Bool
 |.inl k,v=>Value.isInt k v
 |.inr x,v=>Value.isStrOf x v
noncomputable def c2b(w:World):Key->Int
 |.inl k=>hashInt k
 |.inr x=>hashStr w x
theorem C7:∀{k:Key} {v:Value},a4y k v=true->(∃i t,k=Sum.inl i/\v=Value.int i t)∨(∃x t,k=Sum.inr x/\v=Value.str x t)
 |.inl i,v,h=>by obtain⟨t,e⟩:=Value.isInt_shape (k:=i) (v:=v) h;exact .inl ⟨i,t,rfl,e⟩
 |.inr x,v,h=>by obtain⟨t,e⟩:=Value.isStrOf_shape (x:=x) (v:=v) h;exact .inr ⟨x,t,rfl,e⟩
theorem a9N(i:Int)(t:Tok):a4y (.inl i) (.int i t)=true:=by simp[a4y,Value.isInt]
theorem a9M(x:Str)(t:Tok):a4y (.inr x) (.str x t)=true:=by simp[a4y,Value.isStrOf]
theorem b7D(a b:Int):decide ((Sum.inl a:Key)=Sum.inl b)=(a==b):=by
 by_cases e:a=b
 · subst e;simp
 · have h:¬(Sum.inl a:Key)=Sum.inl b:=λq=>e (Sum.inl.inj q);rw[bA h];exact(beq_eq_false_iff_ne.mpr e).symm
theorem b7A(a b:Str):decide ((Sum.inr a:Key)=Sum.inr b)=decide (a=b):=by
 by_cases e:a=b
 · subst e;simp
 · have h:¬(Sum.inr a:Key)=Sum.inr b:=λq=>e (Sum.inr.inj q);rw[bA h,bA e]
theorem b7C(a:Int)(b:Str):decide ((Sum.inl a:Key)=Sum.inr b)=false:=bA (λq=>nomatch q)
theorem b7B(a:Str)(b:Int):decide ((Sum.inr a:Key)=Sum.inl b)=false:=bA (λq=>nomatch q)
def z9 (prog:Program) (w:World):PySem.KeyKind prog w Key where
 is:=a4y
 hash:=c2b w
 inj:=λv a b ha hb=>by
  rcases C7 ha with⟨i,t,rfl,rfl⟩|⟨x,t,rfl,rfl⟩
  · rcases C7 hb with⟨j,u,rfl,e⟩|⟨y,u,rfl,e⟩
    · injection e with e1 _;rw[e1]
    · exact nomatch e
  · rcases C7 hb with⟨j,u,rfl,e⟩|⟨y,u,rfl,e⟩
    · exact nomatch e
    · injection e with e1 _;rw[e1]
 byValue:=λk v h=>by rcases C7 h with⟨i,t,rfl,rfl⟩|⟨x,t,rfl,rfl⟩<;>rfl
 pyHash:=λhv h=>by
  rcases C7 hv with⟨i,t,rfl,rfl⟩|⟨x,t,rfl,rfl⟩
  · exact wpAny_pyHash_int h
  · exact wpAny_pyHash_str h
 eqBool:=λhu hv h=>by
  rcases C7 hu with⟨i,t,rfl,rfl⟩|⟨x,t,rfl,rfl⟩
  · rcases C7 hv with⟨j,u,rfl,rfl⟩|⟨y,u,rfl,rfl⟩
    · rw[b7D] at h;exact wpAny_eqBool_int h
    · rw[b7C] at h;exact SeqAt.EqAt.int_str i t y u _ _ _ _ h
  · rcases C7 hv with⟨j,u,rfl,rfl⟩|⟨y,u,rfl,rfl⟩
    · rw[b7B] at h;exact SeqAt.EqAt.str_int x t j u _ _ _ _ h
    · rw[b7A] at h;exact wpAny_eqBool_str h
 «strs»:=λk x t v h=>by
  rcases C7 h with⟨i,u,rfl,e⟩|⟨y,u,rfl,e⟩
  · exact nomatch e
  · injection e with e1 _;subst e1;cases v<;>rfl
theorem a6y(prog:Program)(w:World)(i:Int)(t:Tok):(z9 prog w).is (.inl i) (.int i t)=true:=a9N i t
theorem a6x(prog:Program)(w:World)(x:Str)(t:Tok):(z9 prog w).is (.inr x) (.str x t)=true:=a9M x t
inductive V where
 |non|bl (b:Bool)|int (i:Int)|str (x:Str)|byt (b:Array UInt8)|flt (b:UInt64)|ref (a:Addr)|ty (n:String)
 deriving DecidableEq
def l8:V->Value->Prop
 |.non,u=>u=Value.none
 |.bl b,u=>u=Value.bool b
 |.int i,u=>∃t,u=Value.int i t
 |.str x,u=>∃t,u=Value.str x t
 |.byt b,u=>∃t,u=Value.bytes b t
 |.flt b,u=>∃t,u=Value.float b t
 |.ref a,u=>u=Value.ref a
 |.ty n,u=>u=Value.type n
abbrev p7:List V->List Value->Prop:=Paired l8
variable{us:List Value}
theorem p7.length{xs:List V}(r:p7 xs us):↥xs=↥us:=Paired.length r
theorem p7.get:∀{xs:List V} {us:List Value} {i:Nat} {x:V},p7 xs us->xs[i]? =some x->∃u,us[i]? =some u/\l8 x u
 |_,_,_,_,.nil,e=>by simp at e
 |_,_,0,_,.cons r _,e=>by simp at e;subst e;exact⟨_,rfl,r⟩
 |_,_,i+1,x,.cons _ t,e=>by obtain⟨u,h1,h2⟩:=p7.get (i:=i) (x:=x) t (by simpa using e);exact⟨u,by simpa using h1,h2⟩
theorem p7.set{x:V}{u:Value}(r:l8 x u):∀{xs:List V} {us:List Value} (i:Nat),p7 xs us->p7 (xs.set i x) (us.set i u)
 |_,_,_,.nil=>.nil
 |_,_,0,.cons _ t=>.cons r t
 |_,_,i+1,.cons q t=>.cons q (p7.set r i t)
theorem p7.append:∀{xs ys:List V} {us ws:List Value},p7 xs us->p7 ys ws->p7 (xs++ys) (us++ws)
 |_,_,_,_,.nil,s=>s
 |_,_,_,_,.cons r t,s=>.cons r (p7.append t s)
theorem p7.take:∀{xs:List V} {us:List Value} (n:Nat),p7 xs us->p7 (xs.take n) (us.take n)
 |_,_,0,_=>.nil
 |_,_,_+1,.nil=>.nil
 |_,_,n+1,.cons r t=>.cons r (p7.take n t)
theorem p7.drop:∀{xs:List V} {us:List Value} (n:Nat),p7 xs us->p7 (xs.drop n) (us.drop n)
 |_,_,0,r=>r
 |_,_,_+1,.nil=>.nil
 |_,_,n+1,.cons _ t=>p7.drop n t
def a0J:Option V->Option Value->Prop
 |some v,some u=>l8 v u
 |none,none=>True
 |_,_=>False
def KV{κ:Type}:List (κ×V)->List (κ×Value)->Prop:=Paired fun(p:κ×V) (q:κ×Value)=>p.1=q.1/\l8 p.2 q.2
noncomputable def kV:Key->V
 |.inl i=>.int i
 |.inr x=>.str x
inductive HO where
 /-- a list -/
 |lst (xs:List V)
 /-- a tuple (never changes) -/
 |tup (xs:List V)
 /-- a dict whose dB are ints and texts; one whose dB are tuples of ints and texts (the empty one is both) -/
 |dK (bF:List (Key×V))|dT (bF:List (List Key×V))
 /-- a set of ints: bG members, bG size -/
 |set (S:Int->Bool) (n:Nat)
 /-- an instance of the class at C, bG dict at dx, bG attributes -/
 |ins (C dx:Addr) (fs:List (Str×V))
 /-- the dict of the instance at x -/
 |own (x:Addr)
 /-- the dict of an exception -/
 |xd (fs:List (Str×V))
 /-- a bound method, f of x -/
 |met (f x:Addr)
 /-- a range object lo, lo + 1, .. below hi -/
 |rng (lo hi:Int)
 /-- a thing that is known to the object (the script; a dict while a loop walks it): read, never written while it is so -/
 |frz (o:Obj) (u:HO)
 /-- a code object's table -/
 |tbl (ps:Array Value)
 /-- any other thing, by what is true of bG one object (a def of one's own: SetO a S n := HO.ext λh => ..) -/
 |ext (φ:Heap->Prop)
abbrev Hp:=Addr->Option HO
noncomputable def upd(H:Hp)(a:Addr)(o:HO):Hp:=λb=>if b=a then some o else H b
variable{H:Hp}{a:Addr}
theorem i8{o:HO}:upd H a o a=some o:=by unfold upd;rw[az rfl]
variable{b:Addr}
theorem m8{o:HO}(h:b≠a):upd H a o b=H b:=by unfold upd;rw[aA h]
theorem b9M{o u:HO}(h:H a=some o)(h':H b=some u)(d:o≠u):a≠b:=by intro e;subst e;rw[h] at h';exact d (ay h')
theorem y9{o:HO}(h:H a=some o)(h':H b=none):a≠b:=by intro e;subst e;rw[h] at h';cases h'
def a0w(h:Heap)(a:Addr)(items:Array Value):Prop:=∃o,h.get? a=some o/\o.cls=.type "tuple"/\o.dict=none/\∃n,o.data=.seq items n
theorem a0w.tup{h:Heap}{a:Addr}{items:Array Value}(x:a0w h a items):IsTup h a items:=let⟨o,e,c,_,n⟩:=x;⟨o,e,c,n⟩
theorem a0w.new(h:Heap)(items:Array Value):a0w (h.push {cls:=.type "tuple",data:=.seq items}) h.objs.size items:=⟨_,Heap.get?_push_size _ rfl,rfl,rfl,_,rfl⟩
section
variable(P:Program)(w:World)
def D2(H:Hp)(h:Heap)(a:Addr):HO->Prop
 |.lst xs=>↥xs<=sizeLine/\∃(bG:List Value) (n:Nat),p7 xs bG/\h.get? a=some {cls:=.type "list",data:=.seq bG.toArray n}
 |.tup xs=>↥xs<=sizeLine/\∃bG:List Value,p7 xs bG/\a0w h a bG.toArray
 |.dK bF=>↥bF<=sizeLine/\(a==sysModules)=false/\∃vs,KV bF vs/\h.DictOf (z9 P w) a vs
 |.dT bF=>↥bF<=sizeLine/\(a==sysModules)=false/\∃xs:List (List Key×Addr×Value),
  Paired (fun(p:List Key×V) (q:List Key×Addr×Value)=>p.1=q.1/\H q.2.1=some (.tup (p.1.map kV))/\l8 p.2 q.2.2) bF xs∧
  ∃o es ep,h.get? a=some o/\o.ExactDict/\o.data=.dict es ep/\es.toList=xs.map (entryOfKey (tupleKind (z9 P w)))/\(xs.map (·.1)).Nodup
 |.set S n=>h.SetOf (intKind P w) a S n
 |.ins C dx fs=>H dx=some (.own a)/\↥fs<=1000/\dx≠a/\h.get? a=some (PySem.W.instObj C dx)∧
  ∃mA,h.Ns1 dx mA/\(∀f,a0J (fs.lookup f) (mA f))/\PySem.Within mA (fs.map (·.1))
 |.own _=>∃o,h.get? a=some o
 |.xd fs=>∃mA,h.Ns1 a mA/\∀f,a0J (fs.lookup f) (mA f)
 |.rng lo hi=>∃t u v,h.get? a=some {cls:=.type "range",data:=.fields #[.int lo t,.int hi u,.int 1 v]}
 |.frz o u=>h.get? a=some o/\D2 H h a u
 |.tbl ps=>h.get? a=some {cls:=.none,data:=.fields ps}
 |.met f x=>h.get? a=some (PySem.W.methodObj (.ref f) (.ref x))
 |.ext φ=>φ h/\(∃o,h.get? a=some o)/\∀h1 h2:Heap,φ h1->(∀o,h1.get? a=some o->h2.get? a=some o)->φ h2
def HOk(H:Hp)(h:Heap):Prop:=∀a o,H a=some o->D2 P w H h a o
end
variable{α:Type}
section
variable{P:Program}{w:World}{H':Hp}{h h':Heap}{o:HO}
theorem D2.lt(x:D2 P w H h a o):a<h.objs.size:=by
 cases o with
 |lst xs=>obtain⟨_,_,_,_,e⟩:=x;exact Heap.lt_size e
 |tup xs=>obtain⟨_,_,_,p⟩:=x;exact p.tup.lt
 |dK bF=>obtain⟨_,_,_,_,o,_,_,e,_⟩:=x;exact Heap.lt_size e
 |dT bF=>obtain⟨_,_,_,_,o,_,_,e,_⟩:=x;exact Heap.lt_size e
 |set S n=>obtain⟨o,_,_,_,e,_⟩:=x;exact Heap.lt_size e
 |ins C dx fs=>obtain⟨_,_,_,e,_⟩:=x;exact Heap.lt_size e
 |own y=>obtain⟨_,e⟩:=x;exact Heap.lt_size e
 |xd fs=>obtain⟨_,⟨_,_,_,e,_⟩,_⟩:=x;exact Heap.lt_size e
 |rng lo hi=>obtain⟨_,_,_,e⟩:=x;exact Heap.lt_size e
 |frz ob u=>obtain⟨e,_⟩:=x;exact Heap.lt_size e
 |tbl ps=>exact Heap.lt_size (show h.get? a=some _ from x)
 |met f y=>exact Heap.lt_size (show h.get? a=some _ from x)
 |ext φ=>obtain⟨_,⟨_,e⟩,_⟩:=x;exact Heap.lt_size e
theorem Paired.mapP{α β:Type}{F G:α->β->Prop}:∀{l₁:List α} {l₂:List β},Paired F l₁ l₂->(∀a b,F a b->G a b)->Paired G l₁ l₂
 |_,_,.nil,_=>.nil
 |_,_,.cons r t,f=>.cons (f _ _ r) (Paired.mapP t f)
theorem D2.stay(x:D2 P w H h a o)(k:∀b u,(b=a∨H b=some (.own a))->h.get? b=some u->h'.get? b=some u)
 (ho:∀b,H b=some (.own a)->H' b=some (.own a)) (ht:∀b xs,H b=some (.tup xs)->H' b=some (.tup xs)):D2 P w H' h' a o:=by
 induction o with
 |lst xs=>obtain⟨z,bG,n,r,e⟩:=x;exact⟨z,bG,n,r,k _ _ (.inl rfl) e⟩
 |tup xs=>obtain⟨z,bG,r,ob,e,c⟩:=x;exact⟨z,bG,r,ob,k _ _ (.inl rfl) e,c⟩
 |dK bF=>obtain⟨z,y,vs,r,ob,es,ep,e,c⟩:=x;exact⟨z,y,vs,r,ob,es,ep,k _ _ (.inl rfl) e,c⟩
 |dT bF=>
  obtain⟨z,y,xs,r,ob,es,ep,e,c⟩:=x;exact⟨z,y,xs,Paired.mapP r λp q z=>⟨z.1,ht _ _ z.2.1,z.2.2⟩,ob,es,ep,k _ _ (.inl rfl) e,c⟩
 |set S n=>obtain⟨ob,es,ep,t,e,c⟩:=x;exact⟨ob,es,ep,t,k _ _ (.inl rfl) e,c⟩
 |ins C dx fs=>
  obtain⟨d,z,ne,e,mA,⟨od,es,ep,e2,c⟩,r⟩:=x;exact⟨ho _ d,z,ne,k _ _ (.inl rfl) e,mA,⟨od,es,ep,k _ _ (.inr d) e2,c⟩,r⟩
 |own y=>obtain⟨ob,e⟩:=x;exact⟨ob,k _ _ (.inl rfl) e⟩
 |xd fs=>obtain⟨mA,⟨od,es,ep,e,c⟩,r⟩:=x;exact⟨mA,⟨od,es,ep,k _ _ (.inl rfl) e,c⟩,r⟩
 |rng lo hi=>obtain⟨t,u,v,e⟩:=x;exact⟨t,u,v,k _ _ (.inl rfl) e⟩
 |frz ob u ih=>obtain⟨e,q⟩:=x;exact⟨k _ _ (.inl rfl) e,ih q⟩
 |tbl ps=>
  have e:h.get? a=some {cls:=.none,data:=.fields ps}:=x;show h'.get? a=some {cls:=.none,data:=.fields ps};exact k a _ (.inl rfl) e
 |met f y=>
  have e:h.get? a=some (PySem.W.methodObj (.ref f) (.ref y)):=x;show h'.get? a=some (PySem.W.methodObj (.ref f) (.ref y));exact k a _ (.inl rfl) e
 |ext φ=>obtain⟨p,⟨o,e⟩,st⟩:=x;exact⟨st _ _ p λo q=>k _ _ (.inl rfl) q,⟨o,k _ _ (.inl rfl) e⟩,st⟩
theorem HOk.lt(x:HOk P w H h)(e:H a=some o):a<h.objs.size:=(x a o e).lt
theorem HOk.fresh(x:HOk P w H h)(e:h.objs.size<=a):H a=none:=by
 cases q:H a with
 |none=>rfl
 |some u=>exact absurd (aE (x.lt q) e) (aT _)
theorem HOk.kept(x:HOk P w H h)(k:∀b u,h.get? b=some u->h'.get? b=some u):HOk P w H h':=λa o e=>
 (x a o e).stay (λb u _ q=>k b u q) (λ_ q=>q) λ_ _ q=>q
theorem HOk.laid(x:HOk P w H h)(k:∀b u,h.get? b=some u->h'.get? b=some u)(hp:h.objs.size<=a)(new:D2 P w (upd H a o) h' a o):HOk P w (upd H a o) h':=λb u e=>by
 have hn:=x.fresh hp
 by_cases hb:b=a
 · subst hb;rw[i8] at e;cases e;exact new
 · rw[m8 hb] at e;exact(x b u e).stay (λc v _ q=>k c v q) (λc q=>by rw[m8 (y9 q hn)];exact q) λc xs q=>by rw[m8 (y9 q hn)];exact q
end
def Rd(H:Hp)(a:Addr)(u:HO):Prop:=H a=some u∨∃o,H a=some (.frz o u)
variable{P:Program}{w:World}{h:Heap}
theorem Rd.ok{u:HO}(r:Rd H a u)(x:HOk P w H h):D2 P w H h a u:=by
 rcases r with r|⟨o,r⟩
 · exact x a u r
 · obtain⟨_,q⟩:=x a _ r;exact q
def Mut:Option HO->Prop
 |some (.lst _)=>True
 |some (.dK _)=>True
 |some (.dT _)=>True
 |some (.set _ _)=>True
 |some (.ins _ _ _)=>True
 |some (.ext _)=>True
 |_=>False
section
variable{h':Heap}{x e:Addr}{o':HO}
theorem HOk.write(ok:HOk P w H h)(mu:Mut (H x))(he:e=x∨H e=some (.own x))(k:∀b u,b≠e->h.get? b=some u->h'.get? b=some u)(heo:∃u,h'.get? e=some u)
 (new:D2 P w (upd H x o') h' x o'):HOk P w (upd H x o') h':=λb u q=>by
 have nown:∀c y,H c=some (.own y)->c≠x:=λc y r z=>by subst z;rw[r] at mu;exact mu
 have ntup:∀c xs,H c=some (.tup xs)->c≠x:=λc xs r z=>by subst z;rw[r] at mu;exact mu
 by_cases hb:b=x
 · subst hb;rw[i8] at q;cases q;exact new
 · rw [m8 hb] at q
   by_cases hbe:b=e
   · have q':H b=some (.own x):=by
      rcases he with z|z
      · exact absurd (hbe.trans z) hb
      · rw[hbe];exact z
     rw[q] at q';cases q';obtain⟨v,hv⟩:=heo;exact⟨v,by rw[hbe];exact hv⟩
   · refine(ok b u q).stay (λc v hc r=>k c v ?_ r) (λc r=>by rw[m8 (nown c b r)];exact r) λc xs r=>by rw[m8 (ntup c xs r)];exact r
     rcases hc with rfl|hc
     · exact hbe
     · rintro rfl;rcases he with z|z
       · exact nown c b hc z
       · rw[hc] at z;cases z;exact hb rfl
end
structure Un(fs ex:List Addr)(H H':Hp)(h h':Heap):Prop where
 keep:∀b o,h.get? b=some o->H b=none->b∉fs->b∉ex->h'.get? b=some o
 slot:∀b o,h.get? b=some o->H b=none->b∈fs->b∉ex->∃sl,h'.get? b=some {o with slots:=sl}
 free:∀b o,h.get? b=some o->H b=none->b∉ex->H' b=none
 there:∀b o,h.get? b=some o->b∉ex->∃o',h'.get? b=some o'
 tups:∀b xs,H b=some (.tup xs)->H' b=some (.tup xs)
 frzs:∀b o u,H b=some (.frz o u)->H' b=some (.frz o u)
 tbls:∀b ps,H b=some (.tbl ps)->∃dj,H' b=some (.tbl (ps++dj))
section
variable{fs fs' ex ex':List Addr}{H1 H2:Hp}{h1 h2 h':Heap}{x e:Addr}{o:HO}
theorem Un.any(u:Un fs ex H H1 h h1){ob:Obj}(q:h.get? b=some ob)(n:H b=none)(hx:b∉ex):∃sl,h1.get? b=some {ob with slots:=sl}:=by
 by_cases hb:b∈fs
 · exact u.slot b ob q n hb hx
 · exact⟨ob.slots,u.keep b ob q n hb hx⟩
theorem Un.kept(k:∀b u,h.get? b=some u->h'.get? b=some u):Un fs ex H H h h':=
 ⟨λb ob q _ _ _=>k b ob q,λb ob q _ _ _=>⟨ob.slots,k b ob q⟩,λ_ _ _ n _=>n,λb ob q _=>⟨ob,k b ob q⟩,λ_ _ q=>q,λ_ _ _ q=>q,λ_ ps q=>⟨#[],by rw[q];simp⟩⟩
theorem Un.refl:Un fs ex H H h h:=Un.kept λ_ _ q=>q
theorem Un.laid(k:∀b u,h.get? b=some u->h'.get? b=some u)(hp:h.objs.size<=a)(hn:H a=none):Un fs ex H (upd H a o) h h' where
 keep:=λb u q _ _ _=>k b u q
 slot:=λb u q _ _ _=>⟨u.slots,k b u q⟩
 free:=λb u q n _=>by rw[m8 (Nat.ne_of_lt (aE (Heap.lt_size q) hp))];exact n
 there:=λb u q _=>⟨u,k b u q⟩
 tups:=λb xs q=>by rw[m8 (y9 q hn)];exact q
 frzs:=λb u xs q=>by rw[m8 (y9 q hn)];exact q
 tbls:=λb ps q=>⟨#[],by rw[m8 (y9 q hn),q];simp⟩
theorem Un.write(mu:Mut (H x))(he:e=x∨H e=some (.own x))(k:∀b u,b≠e->h.get? b=some u->h'.get? b=some u)(heo:∃u,h'.get? e=some u):Un fs ex H (upd H x o) h h':=by
 have hx:∀b,H b=none->b≠x:=λb n z=>by subst z;rw[n] at mu;exact mu
 have hb:∀b,H b=none->b≠e:=λb n z=>by
  subst z;rcases he with r|r
  · exact hx b n r
  · rw[n] at r;cases r
 have hm:∀b u,H b=some u->¬Mut (some u)->b≠x:=λb u q nm z=>by subst z;rw[q] at mu;exact nm mu
 refine⟨λb u q n _ _=>k b u (hb b n) q,λb u q n _ _=>⟨u.slots,k b u (hb b n) q⟩,λb u q n _=>by rw[m8 (hx b n)];exact n,λb u q _=>?_,
  λb xs q=>by rw[m8 (hm b _ q λz=>z)];exact q,λb u xs q=>by rw[m8 (hm b _ q λz=>z)];exact q,λb ps q=>⟨#[],by rw[m8 (hm b _ q λz=>z),q];simp⟩⟩
 by_cases hbe:b=e
 · subst hbe;exact heo
 · exact⟨u,k b u hbe q⟩
end
noncomputable def trk(h:Heap)(H:Hp):List Addr:=(List.range h.objs.size).filter λa=>(H a).isSome
def a5y(h:Heap)(H:Hp):Heap:=PySem.W.hideAll h (trk h H)
theorem a9R(h:Heap)(H:Hp):(a5y h H).objs.size=h.objs.size:=PySem.W.hideAll_size _ _
theorem b1X{o:Obj}(e:h.get? b=some o)(n:H b=none):(a5y h H).get? b=some o:=
 PySem.W.hideAll_get _ e λhm=>by have q:(H b).isSome=true:=(bm.mp hm).2;rw[n] at q;simp at q
theorem b4A{o:Obj}(e:(a5y h H).get? b=some o):h.get? b=some o/\H b=none:=by
 have e':h.get? b=some o:=PySem.W.of_hideAll (trk h H) e;refine⟨e',?_⟩;cases q:H b with
 |none=>rfl
 |some x=>
  have hm:b∈trk h H:=bm.mpr ⟨aQ.mpr (Heap.lt_size e'),by simp[q]⟩;have z:(a5y h H).get? b=none:=PySem.W.hideAll_none (trk h H) hm;rw[z] at e;cases e
noncomputable def b5O(g h:Heap)(L:Addr):List (Addr×Obj):=(List.range h.objs.size).filterMap λa=>if a=L∨(g.get? a).isSome=true then none else(h.get? a).map λo=>(a,o)
variable{g:Heap}{L:Addr}
def i7(g h:Heap)(L d:Addr):List (Addr×Obj):=(b5O g h L).filter λp=>decide (p.1≠d)
variable{d:Addr}{h':Heap}{m:Str->Option Value}
structure Mod(K:PySem.W.Frag)(mg:Str->Option Value)(base:Heap):Prop where
 kin:K.In base
 glob:base.Ns mainGlobals mg
 blt:∃mb,base.Ns builtinsNs mb/\∀x:Str,x≠"__name__"->mb x=bootBuiltins x
 nolimit:base.NoLimit
structure Cx where
 prog:Program
 w:World
 K:PySem.W.Frag
 mg:Str->Option Value
 base:Heap
 A:Around
 N:List Str
 s₀:Shared
 H₀:Hp
 env:Env
 outer:List Env
 stack:List Env
 ex:List Addr
 fn:Str->Bool
 calm:Bool
 pn:List (Addr×Obj)
 xe:Value->Shared->Prop
noncomputable def frs(l:List Env):List Addr:=l.filterMap (·.frame)
abbrev Cx.fs(X:Cx):List Addr:=frs X.outer
def Vis(sc:Scope)(x:Str):Prop:=sc.names.lookup x=some .local∨sc.names.lookup x=some .cell∨sc.names.lookup x=some .free
def Loc(sc:Scope)(x:Str):Prop:=sc.names.lookup x=some .local∨sc.names.lookup x=some .cell
def c2G(env:Env)(h:Heap)(m:Str->Option Value)(x:Str)(u:Value):Prop:=
 (env.kindOf x=some .local/\m x=some u)∨((env.kindOf x=some .cell∨env.kindOf x=some .free)/\∃c,env.cells.lookup x=some c/\h.IsCell c (some u))
structure Cx.Ok(X:Cx):Prop where
 mod:Mod X.K X.mg X.base
 kind:X.env.scope.kind=.function
 glob:X.env.globals=mainGlobals
 blt:X.env.builtins=builtinsNs
 above:X.s₀.heap.objs.size<=X.env.locals
 inj:∀x y c,X.env.cells.lookup x=some c->X.env.cells.lookup y=some c->x=y
 has:∀x,(X.env.kindOf x=some .cell∨X.env.kindOf x=some .free)->∃c,X.env.cells.lookup x=some c
 cab:∀x c,X.fn x=true->X.env.cells.lookup x=some c->X.s₀.heap.objs.size<=c
 hd:X.calm=true->X.A.handled=none
 frames:X.A.frames=some X.stack
 stk:X.stack=X.outer∨(X.stack=X.env::X.outer/\X.env.frame=some X.env.locals)
 exf:∀b∈X.ex,b≠X.env.locals/\∀x c,X.env.cells.lookup x=some c->c≠b
 bs:∀b o,X.base.get? b=some o->X.s₀.heap.get? b=some o/\X.H₀ b=none
 bsz:X.base.objs.size<=X.s₀.heap.objs.size
 noex:∀b o,X.base.get? b=some o->b∉X.ex
 exfs:∀b∈X.ex,b∉X.fs
 funs:X.s₀.heap.FunFrames X.base X.outer
 frf:∀b∈X.fs,X.H₀ b=none
structure Inv(X:Cx)(bE:List (Addr×Obj))(σ:List (Option V))(H:Hp)(s:Shared):Prop where
 ok:X.Ok
 os:s.os=X.s₀.os
 bare:AllBare s.gens
 base:Un X.fs X.ex X.H₀ H X.s₀.heap s.heap
 loc:∃m,s.heap.Ns X.env.locals m/\∀(i:Nat) (x:Str) (v:V),X.N[i]? =some x->σ[i]? =some (some v)->Vis X.env.scope x->∃u,l8 v u/\c2G X.env s.heap m x u
 cell:∀x c,X.env.cells.lookup x=some c->∃v,s.heap.IsCell c v
 free:H X.env.locals=none
 freeC:∀x c,X.env.cells.lookup x=some c->H c=none
 pin:∀p∈X.pn++bE,s.heap.get? p.1=some p.2/\H p.1=none/\p.1≠X.env.locals/\p.1∉X.fs/\∀v,p.2.data≠.cell v
 hok:HOk X.prog X.w H s.heap
 len:↥σ=↥X.N
variable{g':Array GenState}{ch:List Addr}{it:Addr}{N:List Str}{j:Nat}{x:Str}{M:Model}{A:Around}{v:V}{u:Value}{s':Shared}
section
variable{X:Cx}{bE:List (Addr×Obj)}{σ:List (Option V)}{H':Hp}{s:Shared}
theorem Cx.Ok.nofr(ok:X.Ok){o:Obj}(e:X.base.get? b=some o):b∉X.fs:=λhb=>by have:=(ok.funs.mem hb).1;rw[e] at this;cases this
theorem Inv.bs(I:Inv X bE σ H s):∀b o,X.base.get? b=some o->s.heap.get? b=some o/\H b=none:=λb o e=>
 ⟨I.base.keep b o (I.ok.bs b o e).1 (I.ok.bs b o e).2 (I.ok.nofr e) (I.ok.noex b o e),I.base.free b o (I.ok.bs b o e).1 (I.ok.bs b o e).2 (I.ok.noex b o e)⟩
theorem Inv.bk(I:Inv X bE σ H s):∀b o,X.base.get? b=some o->s.heap.get? b=some o:=λb o e=>(I.bs b o e).1
theorem Inv.mod(I:Inv X bE σ H s):Mod X.K X.mg X.base:=I.ok.mod
theorem Inv.kIn(I:Inv X bE σ H s):X.K.In s.heap:=I.ok.mod.kin.keeps I.bk
theorem Inv.lt(I:Inv X bE σ H s):X.env.locals<s.heap.objs.size:=let⟨_,hn,_⟩:=I.loc;hn.lt
theorem Inv.sz(I:Inv X bE σ H s):X.s₀.heap.objs.size<=s.heap.objs.size:=aU I.ok.above (Nat.le_of_lt I.lt)
theorem Inv.nofs(I:Inv X bE σ H s)(h:s.heap.objs.size<=a):a∉X.fs:=λhb=>by obtain⟨_,o,ho,_⟩:=I.ok.funs.mem hb;exact absurd (aE (Heap.lt_size ho) (aU I.sz h)) (aT _)
theorem Inv.cne(I:Inv X bE σ H s):∀x c,X.env.cells.lookup x=some c->c≠X.env.locals:=λx c e z=>by obtain⟨v,o,ho,hd⟩:=I.cell x c e;obtain⟨m,⟨o',es,ep,dG,hd',_⟩,_⟩:=I.loc;rw[z,dG] at ho;cases ho;rw[hd'] at hd;cases hd
theorem Inv.funs(I:Inv X bE σ H s):s.heap.FunFrames X.base X.outer:=by
 have all:∀(l:List Env),(∀b∈frs l,b∈X.fs)->X.s₀.heap.FunFrames X.base l->s.heap.FunFrames X.base l:=by
  intro l
  induction l with
  |nil=>intro _ _;trivial
  |cons env r ih=>
   intro hs hl;obtain⟨hk,⟨L,o,hf,hn,ho,hd⟩,hr⟩:=hl;have hL:L∈X.fs:=hs L (by unfold frs;rw[List.filterMap_cons,hf];exact ba);obtain⟨sl,e⟩:=I.base.slot L o ho (I.ok.frf L hL) hL λz=>I.ok.exfs L z hL;exact⟨hk,⟨L,_,hf,hn,e,hd⟩,ih (λb hb=>hs b (by unfold frs;rw[List.filterMap_cons,hf];exact aF _ hb)) hr⟩
 exact all X.outer (λ_ hb=>hb) I.ok.funs
theorem Inv.stack(I:Inv X bE σ H s):s.heap.FunFrames X.base X.stack:=by
 rcases I.ok.stk with e|⟨e,hf⟩
 · rw[e];exact I.funs
 · rw[e];obtain⟨m,hn,_⟩:=I.loc;refine .cons (by rw[I.ok.kind];decide) hf hn ?_ I.funs;exact Heap.get?_none_of_le (aU I.ok.bsz I.ok.above)
theorem Inv.stkSub(I:Inv X bE σ H s):∀b∈frs X.stack,b∈X.env.locals::X.fs:=λb hb=>by
 rcases I.ok.stk with e|⟨e,hf⟩
 · rw[e] at hb;exact aF _ hb
 · rw[e] at hb;unfold frs at hb;rw[List.filterMap_cons,hf] at hb;exact hb
theorem Inv.stkFree(I:Inv X bE σ H s):∀b∈frs X.stack,H b=none:=λb hb=>by
 rcases aH.mp (I.stkSub b hb) with e|hb
 · rw[e];exact I.free
 · obtain⟨_,o,ho,_⟩:=I.ok.funs.mem hb;exact I.base.free b o ho (I.ok.frf b hb) λz=>I.ok.exfs b z hb
theorem Inv.step{t':Nat}{d':Drawn}(I:Inv X bE σ H s)
 (hch:∀b∈ch,(b∈X.ex∨X.s₀.heap.objs.size<=b)/\b≠X.env.locals/\(∀x c,X.env.cells.lookup x=some c->c≠b)/\∀p∈X.pn++bE,p.1≠b)
 (keep:∀b o,b≠X.env.locals->b∉X.fs->b∉ch->s.heap.get? b=some o->H b=none->h'.get? b=some o)
 (slot:∀b o,b≠X.env.locals->b∈X.fs->b∉ch->s.heap.get? b=some o->H b=none->∃sl,h'.get? b=some {o with slots:=sl}) (free:∀b o,b∉ch->s.heap.get? b=some o->H b=none->H' b=none)
 (there:∀b o,b∉ch->s.heap.get? b=some o->∃o',h'.get? b=some o')
 (tups:∀b xs,H b=some (.tup xs)->H' b=some (.tup xs)) (frzs:∀b o u,H b=some (.frz o u)->H' b=some (.frz o u)) (tbls:∀b ps,H b=some (.tbl ps)->∃dj,H' b=some (.tbl (ps++dj)))
 (ns:∀m,s.heap.Ns X.env.locals m->h'.Ns X.env.locals m) (hok:HOk X.prog X.w H' h') (hg:AllBare g'):
 Inv X bE σ H' {s with heap:=h',gens:=g',drawn:=d',toks:=t'}:=by
 have neL:∀b o,X.s₀.heap.get? b=some o->b≠X.env.locals:=λb o e=>Nat.ne_of_lt (aE (Heap.lt_size e) I.ok.above);have neC:∀b o,X.s₀.heap.get? b=some o->b∉X.ex->b∉ch:=λb o e hx hb=>by
  rcases(hch b hb).1 with z|z
  · exact hx z
  · exact absurd (aE (Heap.lt_size e) z) (aT _)
 have cellK:∀x c,X.env.cells.lookup x=some c->∀v,s.heap.IsCell c v->h'.IsCell c v:=λx c e v ⟨o,ho,hd⟩=>by
  have nch:c∉ch:=λz=>(hch c z).2.2.1 x c e rfl
  by_cases hc:c∈X.fs
  · obtain⟨sl,q⟩:=slot c o (I.cne x c e) hc nch ho (I.freeC x c e);exact⟨_,q,hd⟩
  · exact⟨o,keep c o (I.cne x c e) hc nch ho (I.freeC x c e),hd⟩
 refine⟨I.ok,I.os,hg,⟨λb o e n hb hx=>?_,λb o e n hb hx=>?_,λb o e n hx=>?_,λb o e hx=>?_,λb xs e=>tups b xs (I.base.tups b xs e),λb o xs e=>frzs b o xs (I.base.frzs b o xs e),λb ps e=>?_⟩,?_,λx c e=>?_,?_,λx c e=>?_,λp hp=>?_,hok,I.len⟩
 · exact keep b o (neL b o e) hb (neC b o e hx) (I.base.keep b o e n hb hx) (I.base.free b o e n hx)
 · obtain⟨sl,e1⟩:=I.base.slot b o e n hb hx;obtain⟨sl',e2⟩:=slot b _ (neL b o e) hb (neC b o e hx) e1 (I.base.free b o e n hx);exact⟨sl',e2⟩
 · obtain⟨o',e1⟩:=I.base.there b o e hx;exact free b o' (neC b o e hx) e1 (I.base.free b o e n hx)
 · obtain⟨o',e1⟩:=I.base.there b o e hx;exact there b o' (neC b o e hx) e1
 · obtain⟨m1,e1⟩:=I.base.tbls b ps e;obtain⟨m2,e2⟩:=tbls b _ e1;exact⟨m1++m2,by rw[e2,Array.append_assoc]⟩
 · obtain⟨m,hn,hl⟩:=I.loc;refine⟨m,ns m hn,λi x v e1 e2 e3=>?_⟩;obtain⟨u,r,l⟩:=hl i x v e1 e2 e3;refine⟨u,r,?_⟩;rcases l with l|⟨k,c,e,z⟩
   · exact .inl l
   · exact .inr ⟨k,c,e,cellK x c e _ z⟩
 · obtain⟨v,z⟩:=I.cell x c e;exact⟨v,cellK x c e v z⟩
 · obtain⟨m,⟨o,_,_,ho,_⟩,_⟩:=I.loc;exact free _ o (λz=>(hch _ z).2.1 rfl) ho I.free
 · obtain⟨v,o,ho,hd⟩:=I.cell x c e;exact free c o (λz=>(hch c z).2.2.1 x c e rfl) ho (I.freeC x c e)
 · obtain⟨e,n,ne,nf,d⟩:=I.pin p hp;have nch:p.1∉ch:=λz=>(hch p.1 z).2.2.2 p hp rfl;exact⟨keep p.1 p.2 ne nf nch e n,free p.1 p.2 nch e n,ne,nf,d⟩
theorem Inv.un{t':Nat}(I:Inv X bE σ H s)(u:Un X.fs [] H H' s.heap h')(hok:HOk X.prog X.w H' h'):Inv X bE σ H' {s with heap:=h',toks:=t'}:=by
 obtain⟨m,⟨o,es,ep,ho,r⟩,_⟩:=id I.loc;obtain⟨sl,hL⟩:=u.any ho I.free ⋯;exact I.step (g':=s.gens) (d':=s.drawn) (ch:=[]) (λ_ z=>nomatch z) (λb o _ hb _ e n=>u.keep b o e n hb ⋯) (λb o _ hb _ e n=>u.slot b o e n hb ⋯) (λb o _ e n=>u.free b o e n ⋯) (λb o _ e=>u.there b o e ⋯) u.tups u.frzs u.tbls (λm' hm=>by obtain⟨o',es',ep',dG,r'⟩:=hm;rw[ho] at dG;cases dG;exact⟨_,es',ep',hL,r'⟩) hok I.bare
theorem Inv.call{t':Nat}{d':Drawn}(I:Inv X bE σ H s)(u:Un (frs X.stack) ch H H' s.heap h')(hok:HOk X.prog X.w H' h')(hg:AllBare g')
 (hch:∀b∈ch,(b∈X.ex∨X.s₀.heap.objs.size<=b)/\b≠X.env.locals/\(∀x c,X.env.cells.lookup x=some c->c≠b)/\∀p∈X.pn++bE,p.1≠b):
 Inv X bE σ H' {s with heap:=h',gens:=g',drawn:=d',toks:=t'}:=by
 obtain⟨m,⟨o,es,ep,ho,r⟩,_⟩:=id I.loc;obtain⟨sl,hL⟩:=u.any ho I.free λz=>(hch _ z).2.1 rfl;exact I.step (ch:=ch) hch (λb o hL hb hc e n=>u.keep b o e n (λz=>(aH.mp (I.stkSub b z)).elim hL hb) hc) (λb o _ _ hc e n=>u.any e n hc) (λb o hc e n=>u.free b o e n hc) (λb o hc e=>u.there b o e hc) u.tups u.frzs u.tbls (λm' hm=>by obtain⟨o',es',ep',dG,r'⟩:=hm;rw[ho] at dG;cases dG;exact⟨_,es',ep',hL,r'⟩) hok hg
theorem Inv.turned{t':Nat}(I:Inv X bE σ H s)(k:∀b o,b≠it->s.heap.get? b=some o->h'.get? b=some o)(hn:H it=none)(hL:it≠X.env.locals)
 (h1:it∈X.ex∨X.s₀.heap.objs.size<=it) (h2:∀x c,X.env.cells.lookup x=some c->c≠it) (h3:∀p∈X.pn++bE,p.1≠it):Inv X bE σ H {s with heap:=h',toks:=t'}:=by
 have nit:∀b u,H b=some u->b≠it:=λb u e z=>by rw[z,hn] at e;cases e
 refine I.step (g':=s.gens) (d':=s.drawn) (ch:=[it]) (λb hb=>?_) (λb o _ _ hc e _=>k b o (λz=>hc (by simp[z])) e) (λb o _ _ hc e _=>⟨o.slots,k b o (λz=>hc (by simp[z])) e⟩) (λ_ _ _ _ n=>n)
  (λb o hc e=>⟨o,k b o (λz=>hc (by simp[z])) e⟩) (λ_ _ e=>e) (λ_ _ _ e=>e) (λb ps e=>⟨#[],by rw[e];simp⟩) (λm hm=>?_) (λb u e=>?_) I.bare
 · have e:b=it:=by simpa using hb
   subst e;exact⟨h1,hL,h2,h3⟩
 · obtain⟨o,es,ep,ho,r⟩:=hm;exact⟨o,es,ep,k _ o (Ne.symm hL) ho,r⟩
 · refine(I.hok b u e).stay (λc v hc q=>k c v ?_ q) (λ_ q=>q) λ_ _ q=>q;rcases hc with z|z
   · rw[z];exact nit b u e
   · exact nit c _ z
theorem Inv.tok(I:Inv X bE σ H s)(t:Nat):Inv X bE σ H {s with toks:=t}:=I.un (h':=s.heap) (t':=t) Un.refl I.hok
theorem Inv.kept{t':Nat}(I:Inv X bE σ H s)(k:∀b u,s.heap.get? b=some u->h'.get? b=some u):Inv X bE σ H {s with heap:=h',toks:=t'}:=I.un (Un.kept k) (I.hok.kept k)
theorem Inv.laid{o:HO}{t':Nat}(I:Inv X bE σ H s)(k:∀b u,s.heap.get? b=some u->h'.get? b=some u)(hp:s.heap.objs.size<=a)(new:D2 X.prog X.w (upd H a o) h' a o):
 Inv X bE σ (upd H a o) {s with heap:=h',toks:=t'}:=I.un (Un.laid k hp (I.hok.fresh hp)) (I.hok.laid k hp new)
theorem Inv.write{x e:Addr}{o:HO}{t':Nat}(I:Inv X bE σ H s)(mu:Mut (H x))(he:e=x∨H e=some (.own x))(k:∀b u,b≠e->s.heap.get? b=some u->h'.get? b=some u)(heo:∃u,h'.get? e=some u)
 (new:D2 X.prog X.w (upd H x o) h' x o):Inv X bE σ (upd H x o) {s with heap:=h',toks:=t'}:=I.un (Un.write mu he k heo) (I.hok.write mu he k heo new)
theorem Inv.weak{bS:List (Option V)}(I:Inv X bE σ H s)(hl:↥bS=↥σ)(w:∀(i:Nat) v,bS[i]? =some (some v)->σ[i]? =some (some v)):Inv X bE bS H s:=
 ⟨I.ok,I.os,I.bare,I.base,let⟨m,hn,hl'⟩:=I.loc;⟨m,hn,λi x v e1 e2 e3=>hl' i x v e1 (w i v e2) e3⟩,I.cell,I.free,I.freeC,I.pin,I.hok,hl.trans I.len⟩
theorem Inv.pins_of{pins':List (Addr×Obj)}(I:Inv X bE σ H s)(h:∀p∈pins',s.heap.get? p.1=some p.2/\H p.1=none/\p.1≠X.env.locals/\p.1∉X.fs/\∀v,p.2.data≠.cell v):Inv X pins' σ H s:=
 ⟨I.ok,I.os,I.bare,I.base,I.loc,I.cell,I.free,I.freeC,λp hp=>(aN.mp hp).elim (λz=>I.pin p (mem_append_left _ z)) (h p),I.hok,I.len⟩
theorem a6v(hN:N.Nodup){i:Nat}(a:N[i]? =some x)(b:N[j]? =some x):i=j:=by obtain⟨h1,e1⟩:=ac.mp a;obtain⟨h2,e2⟩:=ac.mp b;exact(getElem_inj hN).mp (e1.trans e2.symm)
theorem a4m{E:Value->Shared->Prop}{i:Nat}{Q:Unit->Shared->Prop}(I:Inv X bE σ H s)(hN:X.N.Nodup)(hi:X.N[i]? =some x)(hx:Loc X.env.scope x)(r:l8 v u)
 (h:∀s',Inv X bE (σ.set i (some v)) H s'->(∃a,Heap.SameBut a s.heap s'.heap/\(a=X.env.locals∨X.env.cells.lookup x=some a))->Q () s') (hf:X.fn x=true∨X.env.scope.names.lookup x=some .local:=by first|exact .inl rfl|exact .inr rfl|assumption):wpAny M A (storeName X.env x u) Q E s:=by
 obtain⟨m,hn,hl⟩:=id I.loc;have hcls:(X.env.scope.kind==.class||(X.env.scope.kind==.module&&X.env.locals !=X.env.globals))=false:=by rw[I.ok.kind];rfl
 have hiσ:i<↥σ:=by rw[I.len];exact(ac.mp hi).1
 have cne:=I.cne;have tracked:∀{a:Addr} {h':Heap},(∃o,s.heap.get? a=some o/\H a=none)->Heap.SameBut a s.heap h'->HOk X.prog X.w H h':=fun{a h'} ha hs b ob e=>by
  obtain⟨_,_,hfree⟩:=ha;refine(I.hok b ob e).stay (λc w' hc q=>(hs.2 c ?_).trans q) (λ_ q=>q) λ_ _ q=>q;rintro rfl;rcases hc with rfl|hc
  · rw[hfree] at e;cases e
  · rw[hfree] at hc;cases hc
 rcases hx with hk|hk
 · refine wpAny_storeName_local hk hn (λh' hn' hs=>?_) hcls;obtain⟨oL,_,_,hoL,_⟩:=id hn;refine h _ ⟨I.ok,I.os,I.bare,⟨λb o e n hb hx=>?_,λb o e n hb hx=>?_,I.base.free,λb o e hx=>?_,I.base.tups,I.base.frzs,I.base.tbls⟩,⟨_,hn',λj y v' e1 e2 e3=>?_⟩,λy c e=>?_,I.free,I.freeC,λp hp=>?_,tracked ⟨oL,hoL,I.free⟩ hs,by simpa using I.len⟩ ⟨_,hs,.inl rfl⟩
   · exact(hs.2 b (Nat.ne_of_lt (aE (Heap.lt_size e) I.ok.above))).trans (I.base.keep b o e n hb hx)
   · obtain⟨sl,e1⟩:=I.base.slot b o e n hb hx;exact⟨sl,(hs.2 b (Nat.ne_of_lt (aE (Heap.lt_size e) I.ok.above))).trans e1⟩
   · obtain⟨o',e1⟩:=I.base.there b o e hx;exact⟨o',(hs.2 b (Nat.ne_of_lt (aE (Heap.lt_size e) I.ok.above))).trans e1⟩
   · by_cases hj:j=i
     · subst hj;rw[hi] at e1;cases e1;rw[List.getElem?_set_self hiσ] at e2;cases e2;exact⟨u,r,.inl ⟨hk,by simp⟩⟩
     · rw[List.getElem?_set_ne (Ne.symm hj)] at e2;obtain⟨u',r',q⟩:=hl j y v' e1 e2 e3;refine⟨u',r',?_⟩;rcases q with⟨k,e⟩|⟨k,c,e,z⟩
       · refine .inl ⟨k,?_⟩;have:y≠x:=λe=>hj (a6v hN e1 (e▸hi));simp[this,e]
       · exact .inr ⟨k,c,e,z.sameBut hs (cne y c e)⟩
   · obtain⟨w',z⟩:=I.cell y c e;exact⟨w',z.sameBut hs (cne y c e)⟩
   · obtain⟨e,n,ne,nf,d⟩:=I.pin p hp;exact⟨(hs.2 p.1 ne).trans e,n,ne,nf,d⟩
 · have hfn:X.fn x=true:=by
    rcases hf with z|z
    · exact z
    · rw[z] at hk;cases hk
   obtain⟨c,hc⟩:=I.ok.has x (.inl hk);obtain⟨w',z⟩:=I.cell x c hc;refine wpAny_storeName_cell I.ok.kind hk hc z (λh' eY hs=>?_);obtain⟨oc,hoc,hocd⟩:=id z;refine h {s with heap:=h'} ⟨I.ok,I.os,I.bare,⟨λb o e n hb hx=>?_,λb o e n hb hx=>?_,I.base.free,λb o e hx=>?_,I.base.tups,I.base.frzs,I.base.tbls⟩,⟨m,hn.sameBut hs (Ne.symm (cne x c hc)),λj y v' e1 e2 e3=>?_⟩,λy c' e=>?_,I.free,I.freeC,λp hp=>?_,tracked ⟨oc,hoc,I.freeC x c hc⟩ hs,by simpa using I.len⟩ ⟨c,hs,.inr hc⟩
   · exact(hs.2 b (Nat.ne_of_lt (aE (Heap.lt_size e) (I.ok.cab x c hfn hc)))).trans (I.base.keep b o e n hb hx)
   · obtain⟨sl,e1⟩:=I.base.slot b o e n hb hx;exact⟨sl,(hs.2 b (Nat.ne_of_lt (aE (Heap.lt_size e) (I.ok.cab x c hfn hc)))).trans e1⟩
   · obtain⟨o',e1⟩:=I.base.there b o e hx;exact⟨o',(hs.2 b (Nat.ne_of_lt (aE (Heap.lt_size e) (I.ok.cab x c hfn hc)))).trans e1⟩
   · by_cases hj:j=i
     · subst hj;rw[hi] at e1;cases e1;rw[List.getElem?_set_self hiσ] at e2;cases e2;exact⟨u,r,.inr ⟨.inl hk,c,hc,eY⟩⟩
     · rw[List.getElem?_set_ne (Ne.symm hj)] at e2;obtain⟨u',r',q⟩:=hl j y v' e1 e2 e3;refine⟨u',r',?_⟩;rcases q with q|⟨k,c',e,z'⟩
       · exact .inl q
       · refine .inr ⟨k,c',e,z'.sameBut hs ?_⟩;rintro rfl;exact hj (a6v hN e1 (I.ok.inj _ _ _ e hc▸hi))
   · by_cases dD:c'=c
     · subst dD;exact⟨_,eY⟩
     · obtain⟨w2,z2⟩:=I.cell y c' e;exact⟨w2,z2.sameBut hs dD⟩
   · obtain⟨e,n,ne,nf,d⟩:=I.pin p hp;refine⟨(hs.2 p.1 ?_).trans e,n,ne,nf,d⟩;intro q;rw[q,hoc] at e;have q':oc=p.2:=ay e;exact d w' (by rw[←q'];exact hocd)
theorem a6e{E:Value->Shared->Prop}{i:Nat}{Q:Unit->Shared->Prop}(I:Inv X bE σ H s)(hN:X.N.Nodup)(hi:X.N[i]? =some x)(hx:Loc X.env.scope x)(r:l8 v u)
 (h:∀s',Inv X bE (σ.set i (some v)) H s'->Q () s') (hf:X.fn x=true∨X.env.scope.names.lookup x=some .local:=by first|exact .inl rfl|exact .inr rfl|assumption):wpAny M A (storeName X.env x u) Q E s:=
 a4m I hN hi hx r (λs' I' _=>h s' I') hf
theorem Inv.call'(I:Inv X bE σ H s)(ho:s'.os=s.os)(u:Un (frs X.stack) ch H H' s.heap s'.heap)(hok:HOk X.prog X.w H' s'.heap)(hg:AllBare s'.gens)
 (hch:∀b∈ch,(b∈X.ex∨X.s₀.heap.objs.size<=b)/\b≠X.env.locals/\(∀x c,X.env.cells.lookup x=some c->c≠b)/\∀p∈X.pn++bE,p.1≠b):Inv X bE σ H' s':=by
 obtain⟨h',g',d',t',o'⟩:=s';have e:o'=s.os:=ho;subst e;exact I.call (g':=g') (t':=t') (d':=d') u hok hg hch
end
abbrev XK:=Value->Option Addr->Hp->Prop
abbrev St:=List (Option V)
abbrev VK:=V->Hp->Prop
abbrev TE:=St->Hp->VK->Prop
abbrev TT:=St->Hp->(Bool->Hp->Prop)->Prop
abbrev TA:=St->Hp->(List V->Hp->Prop)->Prop
structure Ends where
 nx:St->Hp->Prop
 rt:VK
 bk:St->Hp->Prop:=λ_ _=>False
 ct:St->Hp->Prop:=λ_ _=>False
abbrev TS:=Ends->St->Hp->Prop
def EP(X:Cx)(bE:List (Addr×Obj))(σ:St)(Q:VK)(u:Value)(s':Shared):Prop:=∃v H',Inv X bE σ H' s'/\l8 v u/\Q v H'
def TP(X:Cx)(bE:List (Addr×Obj))(σ:St)(Q:Bool->Hp->Prop)(b:Bool)(s':Shared):Prop:=∃H',Inv X bE σ H' s'/\Q b H'
def AP(X:Cx)(bE:List (Addr×Obj))(σ:St)(Q:List V->Hp->Prop)(us:List Value)(s':Shared):Prop:=∃vs H',Inv X bE σ H' s'/\p7 vs us/\Q vs H'
def SP(X:Cx)(bE:List (Addr×Obj))(D:Ends)(f:Flow)(s':Shared):Prop:=
 match f with
 |.next=>∃bS H',Inv X bE bS H' s'/\D.nx bS H'
 |.brk=>∃bS H',Inv X bE bS H' s'/\D.bk bS H'
 |.cont=>∃bS H',Inv X bE bS H' s'/\D.ct bS H'
 |.ret u=>∃v bS H',Inv X bE bS H' s'/\l8 v u/\D.rt v H'
def PE(X:Cx)(e:Expr)(t:TE):Prop:=
 ∀(bE:List (Addr×Obj)) (s:Shared) (σ:St) (H:Hp) (Q:VK),Inv X bE σ H s->t σ H Q->wpAny (model X.prog X.w) X.A (eval e X.env) (EP X bE σ Q) X.xe s
def PT(X:Cx)(e:Expr)(t:TT):Prop:=
 ∀(bE:List (Addr×Obj)) (s:Shared) (σ:St) (H:Hp) (Q:Bool->Hp->Prop),Inv X bE σ H s->t σ H Q->wpAny (model X.prog X.w) X.A (isTrue e X.env (eval e X.env)) (TP X bE σ Q) X.xe s
def PW(X:Cx)(e:Expr)(t:TT):Prop:=
 ∀(de:Sem Value) (bE:List (Addr×Obj)) (s:Shared) (σ:St) (H:Hp) (Q:Bool->Hp->Prop),Inv X bE σ H s->t σ H Q->wpAny (model X.prog X.w) X.A (isTrue e X.env de) (TP X bE σ Q) X.xe s
variable{X:Cx}{e:Expr}
theorem PW.pt{t:TT}(h:PW X e t):PT X e t:=h _
def PA(X:Cx)(es:List Expr)(t:TA):Prop:=
 ∀(pos:Pos) (bE:List (Addr×Obj)) (s:Shared) (σ:St) (H:Hp) (Q:List V->Hp->Prop),Inv X bE σ H s->t σ H Q->wpAny (model X.prog X.w) X.A (spliced (backTo pos (starEach es X.env))) (AP X bE σ Q) X.xe s
def PS(X:Cx)(st:Stmt)(t:TS):Prop:=
 ∀(bE:List (Addr×Obj)) (s:Shared) (σ:St) (H:Hp) (D:Ends),Inv X bE σ H s->t D σ H->wpAny (model X.prog X.w) X.A (exec st X.env) (SP X bE D) X.xe s
def PSs(X:Cx)(st:List Stmt)(t:TS):Prop:=
 ∀(bE:List (Addr×Obj)) (s:Shared) (σ:St) (H:Hp) (D:Ends),Inv X bE σ H s->t D σ H->wpAny (model X.prog X.w) X.A (execs st X.env) (SP X bE D) X.xe s
theorem thn{t:Sem α}{Q Q':α->Shared->Prop}{E:Value->Shared->Prop}{s:Shared}(h:wpAny M A t Q E s)(hQ:∀a s,Q a s->Q' a s):wpAny M A t Q' E s:=wpAny_mono h hQ λ_ _ x=>x
variable{bE:List (Addr×Obj)}{σ:St}{pos:Pos}{Q:Value->Shared->Prop}{op:CmpOp}{c:Expr}
section
theorem bin{a b:Expr}{ta tb:TE}(ha:PE X a ta)(hb:PE X b tb){s:Shared}{R:V->V->Hp->Prop}(I:Inv X bE σ H s)(h:ta σ H λx H1=>tb σ H1 λy H2=>R x y H2)
 {Q :α->Shared->Prop} {f:Value->Value->Sem α}
    (hf:∀v u s2 x y H2,Inv X bE σ H2 s2->l8 x v->l8 y u->R x y H2->wpAny (model X.prog X.w) X.A (f v u) Q X.xe s2):
    wpAny (model X.prog X.w) X.A (eval a X.env) (λv bM=>wpAny (model X.prog X.w) X.A (eval b X.env) (λu di=>wpAny (model X.prog X.w) X.A (f v u) Q X.xe di) X.xe bM) X.xe s:=by
  refine thn (ha bE s σ H _ I h) λv s1 zz=>?_;obtain⟨x,H1,I1,r1,q1⟩:=zz;refine thn (hb bE s1 σ H1 _ I1 q1) λu s2 zz=>?_;obtain⟨y,H2,I2,r2,q2⟩:=zz;exact hf v u s2 x y H2 I2 r1 r2 q2
noncomputable def c1C(i:Nat):TE:=λσ H Q=>∃v,σ[i]? =some (some v)/\Q v H
def tC(v:V):TE:=λ_ H Q=>Q v H
theorem b6Z{i:Nat}(hN:X.N[i]? =some x)(hv:Vis X.env.scope x)(hd:(x==("__debug__":Str))=false:=by decide)(eS:(x==("__classdict__":Str))=false:=by decide):PE X (.Name x pos) (c1C i):=by
 intro bE s σ H Q I h;obtain⟨v,e,h⟩:=h;obtain⟨m,hn,hl⟩:=I.loc;obtain⟨u,r,l⟩:=hl i x v hN e hv;have cM:EP X bE σ Q u s:=⟨v,H,I,r,h⟩;rcases l with⟨hk,hm⟩|⟨hk,c,hc,hcell⟩
 · exact wpAny_Name (wpAny_loadName_local I.ok.kind hk hn hm cM) hd
 · rcases hk with hk|hk
   · exact wpAny_Name (wpAny_loadName_cell I.ok.kind hk hc hcell cM) hd
   · exact wpAny_Name (wpAny_loadName_free I.ok.kind hk hc hcell cM eS) hd
theorem b1k{i j pos}:PE X (.Constant (.int i) j pos) (tC (.int i)):=λ_ _ _ H _ I h=>wpAny_Constant_int ⟨.int i,H,I.tok _,⟨_,rfl⟩,h⟩
theorem b9D{b j pos}:PE X (.Constant (.bool b) j pos) (tC (.bl b)):=λ_ _ _ H _ I h=>Constant_bool ⟨.bl b,H,I,rfl,h⟩
theorem b7d{j pos}:PE X (.Constant .none j pos) (tC .non):=λ_ _ _ H _ I h=>Constant_none ⟨.non,H,I,rfl,h⟩
theorem b1h{x j pos}:PE X (.Constant (.str x) j pos) (tC (.str x)):=λ_ _ _ H _ I h=>Calls.Constant_str ⟨.str x,H,I.tok _,⟨_,rfl⟩,h⟩
def Gl(X:Cx)(x:Str):Prop:=X.env.kindOf x=some .globalImplicit
theorem a5p{E:Value->Shared->Prop}{s:Shared}(I:Inv X bE σ H s)(hg:Gl X x)(hm:X.mg x=some u)(h:Q u s)
 (hd:(x==("__debug__":Str))=false:=by decide):wpAny (model X.prog X.w) X.A (eval (.Name x pos) X.env) Q E s:=
 Calls.Name_function_global I.ok.kind hg (Calls.loadGlobal_global (by rw[I.ok.glob];exact I.mod.glob.keeps I.bk) hm h) hd
theorem a1a{E:Value->Shared->Prop}{s:Shared}(I:Inv X bE σ H s)(hg:Gl X x)(hm:X.mg x=none)(hv:bootBuiltins x=some u)(h:Q u s)
 (hn:x≠"__name__":=by decide) (hd:(x==("__debug__":Str))=false:=by decide):wpAny (model X.prog X.w) X.A (eval (.Name x pos) X.env) Q E s:=by
 obtain⟨mb,h1,h2⟩:=I.mod.blt;exact Calls.Name_function_global I.ok.kind hg (Calls.loadGlobal_builtin (by rw[I.ok.glob];exact I.mod.glob.keeps I.bk) hm (by rw[I.ok.blt];exact h1.keeps I.bk) ((h2 x hn).trans hv) h) hd
theorem a2P(hg:Gl X x)(hm:X.mg x=some u)(r:l8 v u)(hd:(x==("__debug__":Str))=false:=by decide):PE X (.Name x pos) (tC v):=
 λ_ _ _ H _ I h=>a5p I hg hm ⟨v,H,I,r,h⟩ hd
theorem a1y(hg:Gl X x)(hm:X.mg x=none)(hv:bootBuiltins x=some u)(r:l8 v u)(hn:x≠"__name__":=by decide)(hd:(x==("__debug__":Str))=false:=by decide):PE X (.Name x pos) (tC v):=
 λ_ _ _ H _ I h=>a1a I hg hm hv ⟨v,H,I,r,h⟩ hn hd
variable{a b:Expr}{ta tb:TE}
def PC(X:Cx)(op:CmpOp)(a b:Expr)(t:TE):Prop:=
 ∀(bE:List (Addr×Obj)) (s:Shared) (σ:St) (H:Hp) (Q:VK),Inv X bE σ H s->t σ H Q→
  wpAny (model X.prog X.w) X.A (eval a X.env) (λv bM=>wpAny (model X.prog X.w) X.A (eval b X.env) (λu di=>wpAny (model X.prog X.w) X.A (compareOp op v u) (EP X bE σ Q) X.xe di) X.xe bM) X.xe s
theorem a6w(b:Expr)(h:op≠.In)(h2:op≠.NotIn):behindInMarks op b=false:=by
 have e1:(op==CmpOp.In)=false:=by cases op<;>first|rfl|exact absurd rfl h
 have e2:(op==CmpOp.NotIn)=false:=by cases op<;>first|rfl|exact absurd rfl h2
 cases b<;>simp[behindInMarks,e1,e2]
noncomputable def c1J(ta:TE):TE:=λσ H Q=>ta σ H λx H1=>Q (.bl (decide (x=.non))) H1
noncomputable def b9c(ta:TE):TE:=λσ H Q=>ta σ H λx H1=>Q (.bl (!decide (x=.non))) H1
theorem l8.none_iff{x:V}{v:Value}(r:l8 x v):(v==Value.none)=decide (x=.non):=by
 cases x with
 |non=>cases r;rfl
 |bl _=>cases r;rfl
 |int _=>obtain⟨t,rfl⟩:=r;rfl
 |str _=>obtain⟨t,rfl⟩:=r;rfl
 |byt _=>obtain⟨t,rfl⟩:=r;rfl
 |flt _=>obtain⟨t,rfl⟩:=r;rfl
 |ref _=>cases r;rfl
 |ty _=>cases r;rfl
theorem b1p{j cW}(ha:PE X a ta):PC X .Is a (.Constant .none j cW) (c1J ta):=by intro bE s σ H Q I h;refine thn (ha bE s σ H _ I h) λv s1 zz=>?_;obtain⟨x,H1,I1,r1,q1⟩:=zz;exact Constant_none (is_none_gen ⟨.bl _,H1,I1,by rw[r1.none_iff];rfl,q1⟩)
theorem a8v{j cW}(ha:PE X a ta):PC X .IsNot a (.Constant .none j cW) (b9c ta):=by intro bE s σ H Q I h;refine thn (ha bE s σ H _ I h) λv s1 zz=>?_;obtain⟨x,H1,I1,r1,q1⟩:=zz;exact Constant_none (isnot_none_gen ⟨.bl _,H1,I1,by rw[r1.none_iff];rfl,q1⟩)
noncomputable def tB(t:TE):TT:=λσ H Q=>t σ H λx H1=>∃c,x=.bl c/\Q c H1
theorem b1n{t:TE}(h:PC X op a b t)(h1:behindInMarks op b=false:=by first|exact a6w _ ∅ ∅|rfl):PE X (.Compare a [op] [b] pos) t:=λbE s σ H Q I hw=>wpAny_Compare1 (h bE s σ H Q I hw) h1
theorem b0U{t:TE}(h:PC X op a b t)(h1:behindInMarks op b=false:=by first|exact a6w _ ∅ ∅|rfl):PT X (.Compare a [op] [b] pos) (tB t):=by intro bE s σ H Q I hw;refine wpAny_isTrue_Compare1 (thn (h bE s σ H _ I hw) λv s1 h1=>thn h1 λu s2 h2=>thn h2 λc s3 zz=>?_) h1;obtain⟨x,H1,I1,r1,q1⟩:=zz;obtain⟨d,rfl,q⟩:=q1;cases r1;exact wpAny_truthy_bool ⟨H1,I1,q⟩
variable{tA tB':TT}{i7:List Expr}
noncomputable def c1N(t u:TT):TT:=λσ H Q=>t σ H λc H1=>if c=true then u σ H1 Q else Q false H1
noncomputable def tOr(t u:TT):TT:=λσ H Q=>t σ H λc H1=>if c=true then Q true H1 else u σ H1 Q
noncomputable def c1H(t:TT):TT:=λσ H Q=>t σ H λc H1=>Q (!c) H1
theorem b4a(ha:PT X a tA):PW X (.BoolOp .And [a] pos) tA:=by
 intro wh bE s σ H Q I h;refine isTrue_and (thn (ha bE s σ H Q I h) λc s1 e=>?_);cases c with
 |true=>exact isTrue_and_nil e
 |false=>exact e
theorem b6J(ha:PT X a tA):PW X (.BoolOp .Or [a] pos) tA:=by
 intro wh bE s σ H Q I h;refine isTrue_or (thn (ha bE s σ H Q I h) λc s1 e=>?_);cases c with
 |false=>exact isTrue_or_nil e
 |true=>exact e
theorem b6K(ha:PT X a tA)(hb:PW X (.BoolOp .And (b::i7) pos) tB'):PW X (.BoolOp .And (a::b::i7) pos) (c1N tA tB'):=by
 intro wh bE s σ H Q I h;refine isTrue_and (thn (ha bE s σ H _ I h) λc s1 zz=>?_);obtain⟨H1,I1,q1⟩:=zz;cases c with
 |true=>exact hb wh bE s1 σ H1 Q I1 q1
 |false=>exact⟨H1,I1,q1⟩
theorem b9y(ha:PT X a tA)(hb:PW X (.BoolOp .Or (b::i7) pos) tB'):PW X (.BoolOp .Or (a::b::i7) pos) (tOr tA tB'):=by
 intro wh bE s σ H Q I h;refine isTrue_or (thn (ha bE s σ H _ I h) λc s1 zz=>?_);obtain⟨H1,I1,q1⟩:=zz;cases c with
 |true=>exact⟨H1,I1,q1⟩
 |false=>exact hb wh bE s1 σ H1 Q I1 q1
theorem b6N(ha:PT X a tA):PT X (.UnaryOp .Not a pos) (c1H tA):=by intro bE s σ H Q I h;exact isTrue_not (ha bE s σ H (λc H1=>Q (!c) H1) I h)
noncomputable def b9i(ta tb:TE):TE:=λσ H Q=>ta σ H λx H1=>∃c,x=.bl c/\if c=true then tb σ H1 Q else Q (.bl false) H1
noncomputable def c1G(ta tb:TE):TE:=λσ H Q=>ta σ H λx H1=>∃c,x=.bl c/\if c=true then Q (.bl true) H1 else tb σ H1 Q
noncomputable def b9b(ta:TE):TE:=λσ H Q=>ta σ H λx H1=>∃c,x=.bl c/\Q (.bl (!c)) H1
theorem b7b{op}{t:TE}(h:PE X a t):PE X (.BoolOp op [a] pos) t:=λbE s σ H Q I hw=>BoolOp_one (h bE s σ H Q I hw)
theorem b7g(ha:PE X a ta)(hb:PE X (.BoolOp .And (b::i7) pos) tb):PE X (.BoolOp .And (a::b::i7) pos) (b9i ta tb):=by
 intro bE s σ H Q I h;refine BoolOp_and (thn (ha bE s σ H _ I h) λv s1 zz=>?_);obtain⟨x,H1,I1,r1,q1⟩:=zz;obtain⟨c,rfl,q1⟩:=q1;cases r1;refine wpAny_truthy_bool ?_;cases c with
 |true=>exact hb bE s1 σ H1 Q I1 q1
 |false=>exact⟨.bl false,H1,I1,rfl,q1⟩
theorem b9B(ha:PE X a ta)(hb:PE X (.BoolOp .Or (b::i7) pos) tb):PE X (.BoolOp .Or (a::b::i7) pos) (c1G ta tb):=by
 intro bE s σ H Q I h;refine BoolOp_or (thn (ha bE s σ H _ I h) λv s1 zz=>?_);obtain⟨x,H1,I1,r1,q1⟩:=zz;obtain⟨c,rfl,q1⟩:=q1;cases r1;refine wpAny_truthy_bool ?_;cases c with
 |false=>exact hb bE s1 σ H1 Q I1 q1
 |true=>exact⟨.bl true,H1,I1,rfl,q1⟩
theorem b7c(ha:PE X a ta):PE X (.UnaryOp .Not a pos) (b9b ta):=by intro bE s σ H Q I h;refine UnaryOp_ (thn (ha bE s σ H _ I h) λv s1 zz=>?_);obtain⟨x,H1,I1,r1,q1⟩:=zz;obtain⟨c,rfl,q1⟩:=q1;cases r1;exact not_of (wpAny_truthy_bool ⟨.bl (!c),H1,I1,rfl,q1⟩)
end
def SqL(K:PySem.W.Frag)(H:Hp)(a:Addr)(xs:List V):Prop:=
 Rd H a (.lst xs)∨
  ∃(o:Obj) (bG:Array Value) (n:Nat),K.lookup a=some o/\o.cls=.type "list"/\o.dict=none/\o.data=.seq bG n/\bG.size<=sizeLine/\p7 xs bG.toList
def SqT(K:PySem.W.Frag)(H:Hp)(a:Addr)(xs:List V):Prop:=
 Rd H a (.tup xs)∨
  ∃(o:Obj) (bG:Array Value) (n:Nat),K.lookup a=some o/\o.cls=.type "tuple"/\o.data=.seq bG n/\bG.size<=sizeLine/\p7 xs bG.toList
noncomputable def c2t:Value->Option V
 |.none=>some .non
 |.bool b=>some (.bl b)
 |.int i _=>some (.int i)
 |.str x _=>some (.str x)
 |.bytes b _=>some (.byt b)
 |.float b _=>some (.flt b)
 |.ref a=>~~~a
 |.type n=>some (.ty n)
 |_=>none
theorem l8.abs{x:V}(r:l8 x u):c2t u=some x:=by
 cases x with
 |non=>cases r;rfl
 |bl _=>cases r;rfl
 |int _=>obtain⟨t,rfl⟩:=r;rfl
 |str _=>obtain⟨t,rfl⟩:=r;rfl
 |byt _=>obtain⟨t,rfl⟩:=r;rfl
 |flt _=>obtain⟨t,rfl⟩:=r;rfl
 |ref _=>cases r;rfl
 |ty _=>cases r;rfl
variable{y:V}
theorem l8.inj{x:V}(r:l8 x u)(q:l8 y u):x=y:=ay (r.abs.symm.trans q.abs)
theorem p7.inj:∀{xs ys:List V} {us:List Value},p7 xs us->p7 ys us->xs=ys
 |_,_,_,.nil,.nil=>rfl
 |_,_,_,.cons r t,.cons r' t'=>by rw[r.inj r',p7.inj t t']
variable{K:PySem.W.Frag}
section
variable{s:Shared}{xs ys:List V}
theorem Inv.list(I:Inv X bE σ H s)(h:SqL X.K H a xs):∃bG:List Value,p7 xs bG/\PlainL s.heap a bG.toArray/\↥xs<=sizeLine:=by
 rcases h with h|⟨o,bG,n,hk,hc,hd,hs,hz,r⟩
 · obtain⟨z,bG,n,r,e⟩:=h.ok I.hok;exact⟨bG,r,⟨_,n,e,rfl,rfl,rfl⟩,z⟩
 · refine⟨bG.toList,r,⟨o,n,I.kIn a o hk,hc,hd,by simpa using hs⟩,?_⟩;have e:=↥r;simp only[Array.length_toList] at e;ac_nf
theorem Inv.tuple(I:Inv X bE σ H s)(h:SqT X.K H a xs):∃bG:List Value,p7 xs bG/\IsTup s.heap a bG.toArray/\↥xs<=sizeLine:=by
 rcases h with h|⟨o,bG,n,hk,hc,hs,hz,r⟩
 · obtain⟨z,bG,r,p⟩:=h.ok I.hok;exact⟨bG,r,p.tup,z⟩
 · refine⟨bG.toList,r,⟨o,I.kIn a o hk,hc,n,by simpa using hs⟩,?_⟩;have e:=↥r;simp only[Array.length_toList] at e;ac_nf
theorem Inv.list_inj(I:Inv X bE σ H s)(h:SqL X.K H a xs)(h':SqL X.K H a ys):xs=ys:=by
 obtain⟨bG,r,⟨o,n,e,_,_,d⟩,_⟩:=I.list h;obtain⟨its',r',⟨o',n',e',_,_,d'⟩,_⟩:=I.list h';rw[e] at e';cases e';rw[d] at d';injection d' with d1 _;have:bG=its':=by simpa using congrArg Array.toList d1
 subst this;exact r.inj r'
theorem Inv.tuple_inj(I:Inv X bE σ H s)(h:SqT X.K H a xs)(h':SqT X.K H a ys):xs=ys:=by
 obtain⟨bG,r,⟨o,e,_,n,d⟩,_⟩:=I.tuple h;obtain⟨its',r',⟨o',e',_,n',d'⟩,_⟩:=I.tuple h';rw[e] at e';cases e';rw[d] at d';injection d' with d1 _;have:bG=its':=by simpa using congrArg Array.toList d1
 subst this;exact r.inj r'
end
variable{tc:TT}
section
variable{st:Stmt}{i7:List Stmt}{t u:TS}{te:TE}
def b9d:TS:=λD σ H=>D.nx σ H
noncomputable def c1E(t u:TS):TS:=λD σ H=>t {D with nx:=u D} σ H
theorem b4b:PSs X [] b9d:=λ_ _ σ H _ I h=>wpAny_execs_nil ⟨σ,H,I,h⟩
theorem b0X(h1:PS X st t)(h2:PSs X i7 u):PSs X (st::i7) (c1E t u):=by
 intro bE s σ H D I h;refine wpAny_execs_cons (thn (h1 bE s σ H {D with nx:=u D} I h) λf s1 q=>?_);cases f with
 |next=>
  obtain⟨bS,H',I',q⟩:=q;exact h2 bE s1 bS H' D I' q
 |ret v=>exact q
 |brk=>exact q
 |cont=>exact q
theorem Inv.quiet{s:Shared}(I:Inv X bE σ H s):interactive X.env=false:=by simp[interactive,I.ok.kind]
noncomputable def b9f(te:TE):TS:=λD σ H=>te σ H λ_ H1=>D.nx σ H1
theorem b4c(he:PE X e te)(hs:swapsWith e none pos.line X.env=pure false:=by rfl):PS X (.Expr e pos) (b9f te):=by intro bE s σ H D I h;exact wpAny_Expr_any (thn (he bE s σ H _ I h) λv s1 ⟨x,H1,I1,r1,q1⟩=>⟨σ,H1,I1,q1⟩) I.quiet hs
def c1F(te:TE):TS:=λD σ H=>te σ H D.rt
theorem b6O(he:PE X e te):PS X (.Return (some e) pos) (c1F te):=by intro bE s σ H D I h;exact wpAny_Return_some (thn (he bE s σ H _ I h) λv s1 ⟨x,H1,I1,r1,q1⟩=>⟨x,σ,H1,I1,r1,q1⟩)
noncomputable def c1K(c:TT)(t u:TS):TS:=λD σ H=>c σ H λb H1=>if b=true then t D σ H1 else u D σ H1
theorem b9z{a b:List Stmt}(hc:PT X c tc)(ha:PSs X a t)(hb:PSs X b u):PS X (.If c a b pos) (c1K tc t u):=by
 intro bE s σ H D I h;refine wpAny_If (thn (hc bE s σ H _ I h) λd s1 zz=>?_);obtain⟨H1,I1,q1⟩:=zz;cases d with
 |true=>exact ha bE s1 σ H1 D I1 q1
 |false=>exact hb bE s1 σ H1 D I1 q1
end
abbrev TG:=V->St->Hp->(St->Hp->Prop)->Prop
abbrev TGs:=List V->St->Hp->(St->Hp->Prop)->Prop
def PG(X:Cx)(target:Expr)(t:TG):Prop:=
 ∀(bE:List (Addr×Obj)) (s:Shared) (σ:St) (H:Hp) (v:V) (u:Value) (Q:St->Hp->Prop),Inv X bE σ H s->l8 v u->t v σ H Q→
  wpAny (model X.prog X.w) X.A (assign target X.env u) (λ_ s'=>∃bS H',Inv X bE bS H' s'/\Q bS H') X.xe s
def PGs(X:Cx)(ts:List Expr)(t:TGs):Prop:=
 ∀(bE:List (Addr×Obj)) (s:Shared) (σ:St) (H:Hp) (vs:List V) (us:List Value) (Q:St->Hp->Prop),Inv X bE σ H s->p7 vs us->t vs σ H Q→
  wpAny (model X.prog X.w) X.A (assignInOrder ((assignEach ts X.env).map (·.2)) us) (λ_ s'=>∃bS H',Inv X bE bS H' s'/\Q bS H') X.xe s
abbrev b8P:=V->V->V->Hp->(Hp->Prop)->Prop
def b8Q(X:Cx)(t:b8P):Prop:=
 ∀(bE:List (Addr×Obj)) (s:Shared) (σ:St) (H:Hp) (o i v:V) (ov iv u:Value) (Q:Hp->Prop),Inv X bE σ H s->l8 o ov->l8 i iv->l8 v u->t o i v H Q→
  wpAny (model X.prog X.w) X.A (setItem ov iv u) (λ_ s'=>∃H',Inv X bE σ H' s'/\Q H') X.xe s
variable{es:List Expr}{n:Nat}{to:TE}{ti:TE}{tg:Expr}{te:TE}{cW:Pos}{ta:TA}
section
noncomputable def b2n(i:Nat):TG:=λv σ H Q=>Q (σ.set i (some v)) H
theorem b4o{i:Nat}(hN:X.N.Nodup)(hi:X.N[i]? =some x)(hx:Loc X.env.scope x)(hf:X.fn x=true∨X.env.scope.names.lookup x=some .local:=by first|exact .inl rfl|exact .inr rfl|assumption):PG X (.Name x pos) (b2n i):=by intro bE s σ H v u Q I r h;exact wpAny_assign_Name (a6e I hN hi hx r (λs' I'=>⟨_,H,I',h⟩) hf)
def c2j:TGs:=λvs σ H Q=>vs=[]/\Q σ H
noncomputable def c0p(t:TG)(u:TGs):TGs:=λvs σ H Q=>∃v r,vs=v::r/\t v σ H λbS H'=>u r bS H' Q
theorem b4n:PGs X [] c2j:=by intro bE s σ H vs us Q I r h;obtain⟨e,h⟩:=h;subst e;cases r;exact assignInOrder_nil ⟨σ,H,I,h⟩
theorem b1g{t:TG}{u:TGs}(h1:PG X e t)(h2:PGs X es u)
 (hs:(assignEach (e::es) X.env).map (·.2)=assign e X.env::(assignEach es X.env).map (·.2):=by rfl):PGs X (e::es) (c0p t u):=by
 intro bE s σ H vs us Q I r h;obtain⟨v,vr,e1,h⟩:=h;subst e1;cases r with
 |cons r rr=>
  rw[hs];refine assignInOrder_cons (thn (h1 bE s σ H _ _ _ I r h) λ_ s1 zz=>?_);obtain⟨σ1,H1,I1,q1⟩:=zz;exact h2 bE s1 σ1 H1 _ _ Q I1 rr q1
noncomputable def c2h(K:PySem.W.Frag)(n:Nat)(t:TGs):TG:=λv σ H Q=>∃a xs,v=.ref a/\SqT K H a xs/\↥xs=n/\t xs σ H Q
theorem b6X{k:Nat}{t:TGs}(hc:X.calm=true)(h:PGs X es t)
 (hn:↥(assignEach es X.env)=n:=by rfl) (dN:(assignEach es X.env).findIdx? (·.1)=none:=by rfl):PG X (.Tuple es k pos) (c2h X.K n t):=by
 intro bE s σ H v u Q I r hw;obtain⟨a,xs,e1,hq,hl,hw⟩:=hw;subst e1;cases r;obtain⟨bG,rv,ht,hz⟩:=I.tuple hq;refine assign_Tuple_tuple (I.ok.hd hc) ht (by simp[hn,←hl,rv.length]) dN λh' hx=>?_;have I1:Inv X bE σ H {s with heap:=h'}:=I.kept (t':=s.toks) λb o e=>hx b o (Nat.ne_of_lt (Heap.lt_size e)) e;exact h bE _ σ H xs _ Q I1 (by simpa using rv) hw
noncomputable def c0o(to ti:TE)(t:b8P):TG:=λv σ H Q=>to σ H λo H1=>ti σ H1 λi H2=>t o i v H2 λH3=>Q σ H3
theorem b6Y{o i:Expr}{t:b8P}(ho:PE X o to)(hi:PE X i ti)(hs:b8Q X t)
 (ha:∀v,assign (.Subscript o i pos) X.env v=(do
  let ov←holding [v] (eval o X.env)
  let iv←holding [v,ov] (eval i X.env)
  standAt pos
  holding [v,ov,iv] (setItem ov iv v)
  release [v,ov,iv] []):=by intro _;rfl):PG X (.Subscript o i pos) (c0o to ti t):=by
 intro bE s σ H v u Q I r h;rw[ha];refine wpAny_bind (wpAny_holding (thn (ho bE s σ H _ I h) λov s1 zz=>?_));obtain⟨x,H1,I1,r1,q1⟩:=zz;refine wpAny_bind (wpAny_holding (thn (hi bE s1 σ H1 _ I1 q1) λiv s2 zz=>?_));obtain⟨y,H2,I2,r2,q2⟩:=zz;refine wpAny_bind (wpAny_standAt (wpAny_bind (wpAny_holding (thn (hs bE s2 σ H2 x y v ov iv u _ I2 r1 r2 r q2) λ_ s3 zz=>?_))));obtain⟨H3,I3,q3⟩:=zz;exact wpAny_release ⟨σ,H3,I3,q3⟩
noncomputable def b6y(te:TE)(g:TG):TS:=λD σ H=>te σ H λx H1=>g x σ H1 D.nx
theorem b1a{g:TG}(he:PE X e te)(hg:PG X tg g)(hs:swapsWithSole [tg] e pos.line X.env=pure false:=by rfl)(hw:swappedStores [tg] e X.env=pure none:=by rfl)
 (h1:(assignEach [tg] X.env).map (·.2)=[assign tg X.env]:=by rfl):PS X (.Assign [tg] e pos) (b6y te g):=by
 intro bE s σ H D I h;refine wpAny_Assign_stores (thn (he bE s σ H _ I h) λv s1 zz=>?_) hs hw;obtain⟨x,H1,I1,r1,q1⟩:=zz;rw[h1];exact thn (hg bE s1 σ H1 x v _ I1 r1 q1) λ_ s2 q=>q
theorem b0Z{i:Nat}(hN:X.N.Nodup)(hi:X.N[i]? =some x)(hx:Loc X.env.scope x)(he:PE X e te)(hs:swapsWith e (some (.Name x cW)) pos.line X.env=pure false:=by rfl)(hf:X.fn x=true∨X.env.scope.names.lookup x=some .local:=by first|exact .inl rfl|exact .inr rfl|assumption):
 PS X (.Assign [.Name x cW] e pos) (b6y te (b2n i)):=by
 intro bE s σ H D I h;refine wpAny_Assign_Name (thn (he bE s σ H _ I h) λv s1 zz=>?_) hs;obtain⟨y,H1,I1,r1,q1⟩:=zz;exact a6e I1 hN hi hx r1 (λs2 I2=>⟨_,H1,I2,q1⟩) hf
end
variable{body:List Stmt}{tb:TS}
section
noncomputable def b6u(c:TT)(tb:TS):TS:=λD σ H=>∃W:Nat->St->Hp->Prop,(∃m,W m σ H)/\∀m σ H,W m σ H→
 c σ H λb H1=>if b=true then∃N:St->Hp->Prop,(∀bS H',N bS H'->∃m',m'<m/\W m' bS H')/\tb {D with nx:=N,ct:=N,bk:=D.nx} σ H1 else D.nx σ H1
theorem b0Y(hp:PassesOwn (model X.prog X.w) X.A X.env X.xe)(hc:PT X c tc)(hb:PSs X body tb):PS X (.While c body [] pos) (b6u tc tb):=by
 intro bE s σ H D I h;obtain⟨W,⟨m0,w0⟩,eg⟩:=h;refine wpAny_While (codeAny_whileLoop (λn s'=>∃bS H',Inv X bE bS H' s'/\W n bS H') ?_ m0 ⟨σ,H,I,w0⟩);rintro n s1 ⟨σ1,H1,I1,w1⟩;refine wpAny_passesOwn hp (thn (hc bE s1 σ1 H1 _ I1 (eg n σ1 H1 w1)) λb s2 zz=>?_);obtain⟨H2,I2,q2⟩:=zz;cases b with
 | true=>
  obtain⟨N,hN,q2⟩:=q2;rw[az rfl];refine wpAny_passesOwn hp (thn (hb bE s2 σ1 H2 _ I2 q2) λf s3 q3=>?_);cases f with
  |next=>
   obtain⟨σ3,H3,I3,n3⟩:=q3;obtain⟨m',hm,w3⟩:=hN σ3 H3 n3;exact⟨m',hm,σ3,H3,I3,w3⟩
  |cont=>
   obtain⟨σ3,H3,I3,n3⟩:=q3;obtain⟨m',hm,w3⟩:=hN σ3 H3 n3;exact⟨m',hm,σ3,H3,I3,w3⟩
  |brk=>exact q3
  |ret v=>exact q3
 |false=>
  rw[aA bt];exact wpAny_execs_nil ⟨σ1,H2,I2,q2⟩
end
structure It where
 go:Nat->Hp->Prop
 yld:Nat->Hp->V->Hp->Prop
 stop:Nat->Hp->Prop
def a2I(X:Cx)(bE:List (Addr×Obj))(H:Hp)(b:Addr):Prop:=
 H b=none/\b≠X.env.locals/\b∉X.fs/\(b∈X.ex∨X.s₀.heap.objs.size<=b)/\(∀x c,X.env.cells.lookup x=some c->c≠b)/\∀p∈X.pn++bE,p.1≠b
variable{H':Hp}
theorem Inv.fpOk{s:Shared}(I:Inv X bE σ H s)(hb:s.heap.objs.size<=b)(hn:H' b=none):a2I X bE H' b:=by
 refine⟨hn,Nat.ne_of_gt (aE I.lt hb),I.nofs hb,.inr (aU I.sz hb),λx c e z=>?_,λp hp z=>?_⟩
 · obtain⟨v,q⟩:=I.cell x c e;exact absurd (aE q.lt (by rw[z];exact hb)) (aT _)
 · exact absurd (aE (Heap.lt_size (I.pin p hp).1) (by rw[z];exact hb)) (aT _)
structure Turn(P:Program)(w:World)(K:PySem.W.Frag)(tg:Expr)(J:It)(fp:List Addr)(it:Addr)(tn:Nat->Heap->Prop):Prop where
 mem:it∈fp
 obj:∀i h,tn i h->∀b∈fp,∃o,h.get? b=some o/\∀v,o.data≠.cell v
 keep:∀i h h',tn i h->(∀b∈fp,∀o,h.get? b=some o->h'.get? b=some o)->tn i h'
 item:∀(X:Cx),X.prog=P->X.w=w->X.K=K->X.calm=true->∀(i:Nat) (bE:List (Addr×Obj)) (s:Shared) (σ:St) (H:Hp) (E:Value->Shared->Prop),Inv X bE σ H s->(∀b∈fp,a2I X bE H b)->tn i s.heap->J.go i H→
  wpAny (model P w) X.A (pyNext (.ref it)) (λr s1=>∃u,r=some u∧
   wpAny (model P w) X.A (letOwnedTupleGo tg (.ref it) u) (λ_ s2=>∃x H',Inv X bE σ H' s2/\l8 x u/\J.yld i H x H'/\tn (i+1) s2.heap/\∀b∈fp,H' b=none) E s1) E s
 done:∀(X:Cx),X.prog=P->X.w=w->X.K=K->X.calm=true->∀(i:Nat) (bE:List (Addr×Obj)) (s:Shared) (σ:St) (H:Hp) (E:Value->Shared->Prop),Inv X bE σ H s->(∀b∈fp,a2I X bE H b)->tn i s.heap->J.stop i H→
  wpAny (model P w) X.A (pyNext (.ref it)) (λr s1=>r=none/\Inv X bE σ H s1) E s
 self:∀(A:Around) (i:Nat) (s:Shared) (Q:Value->Shared->Prop) (E:Value->Shared->Prop),tn i s.heap->Q (.ref it) s->wpAny (model P w) A (pyIter (.ref it)) Q E s
abbrev TI:=St->Hp->(It->Hp->Prop)->Prop
def PIE(X:Cx)(bE:List (Addr×Obj))(σ:St)(tg:Expr)(R:It->Hp->Prop)(itv:Value)(s2:Shared):Prop:=
 ∃(it:Addr) (fp:List Addr) (tn:Nat->Heap->Prop) (J:It) (H':Hp),itv=.ref it/\Inv X bE σ H' s2/\Turn X.prog X.w X.K tg J fp it tn/\tn 0 s2.heap/\(∀b∈fp,a2I X bE H' b)/\R J H'
def PI(X:Cx)(tg iter:Expr)(wi:TI):Prop:=
 ∀(bE:List (Addr×Obj)) (s:Shared) (σ:St) (H:Hp) (R:It->Hp->Prop),Inv X bE σ H s->wi σ H R→
  wpAny (model X.prog X.w) X.A (eval iter X.env) (λv s1=>wpAny (model X.prog X.w) X.A (pyIter v) (PIE X bE σ tg R) X.xe s1) X.xe s
theorem a8P{E:Value->Shared->Prop}{s:Shared}{o:Obj}{n:String}{vs:Array Value}{Q:Unit->Shared->Prop}(ho:s.heap.get? it=some o)(hc:o.cls=.type n)(hd:o.data=.fields vs)
   (hn:["enumerate","zip","dict_itemiterator","dict_reverseitemiterator","odict_iterator","itertools.zip_longest","itertools.pairwise"].contains n=false) (hQ:Q () s):wpAny M A (letOwnedTupleGo tg (.ref it) u) Q E s:=by
 unfold letOwnedTupleGo;cases tg <;>first
   |exact wpAny_pure hQ
   |(cases u<;>first
       |exact wpAny_pure hQ
       | (refine wpAny_bind (wpAny_load ho ?_)
          rw[hc,hd];show wpAny M A (if(["enumerate","zip","dict_itemiterator","dict_reverseitemiterator","odict_iterator","itertools.zip_longest","itertools.pairwise"].contains n&&vs[0]? ==some (rawInt _))=true then _ else _) Q E s;rw[aA (by intro h;rw[hn,Bool.false_and] at h;cases h)];exact wpAny_pure hQ))
noncomputable def Itl(K:PySem.W.Frag)(a:Addr):It:=
 ⟨λi H=>∃xs x,SqL K H a xs/\xs[i]? =some x,λi H x H'=>H'=H/\∀xs,SqL K H a xs->xs[i]? =some x,λi H=>∃xs,SqL K H a xs/\↥xs<=i⟩
noncomputable def Itt(K:PySem.W.Frag)(a:Addr):It:=
 ⟨λi H=>∃xs x,SqT K H a xs/\xs[i]? =some x,λi H x H'=>H'=H/\∀xs,SqT K H a xs->xs[i]? =some x,λi H=>∃xs,SqT K H a xs/\↥xs<=i⟩
noncomputable def Itr(lo:Int)(n:Nat):It:=⟨λi _=>i<n,λi H x H'=>H'=H/\x=.int (lo+i),λi _=>n<=i⟩
theorem a9l(a it:Addr):Turn P w K tg (Itl K a) [it] it (λi h=>h.IsListIter it a i) where
 mem:=by simp
 obj:=λi h st b hb=>by
  have e:b=it:=by simpa using hb
  subst e;obtain⟨o,e,c,d⟩:=st;exact⟨o,e,λv z=>by rw[d] at z;cases z⟩
 keep:=λi h h' st k=>st.at λo e=>k it ⋯ o e
 item:=by intro X hP hw hK hc i bE s σ H E I hf st hg;subst hP hw hK;obtain⟨xs,x,hq,hx⟩:=hg;obtain⟨bG,rv,p,hz⟩:=I.list hq;obtain⟨u,hu,ru⟩:=rv.get hx;obtain⟨f0,f1,f2,f3,f4,f5⟩:=hf it ⋯;refine wpAny_pyNext_list_item st p.isList (x:=u) (by simpa using hu) λh' eU sb=>?_;have I1:Inv X bE σ H {s with heap:=h'}:=I.turned (t':=s.toks) (λb o hb e=>(sb.2 b hb).trans e) f0 f1 f3 f4 f5;obtain⟨o,e,c,d⟩:=id eU;exact⟨u,rfl,a8P (s:={s with heap:=h'}) e c d ∅ ⟨x,H,I1,ru,⟨rfl,λys hy=>by rw[I.list_inj hy hq];exact hx⟩,eU,λb hb=>(hf b hb).1⟩⟩
 done:=by intro X hP hw hK hc i bE s σ H E I hf st hg;subst hP hw hK;obtain⟨xs,hq,hx⟩:=hg;obtain⟨bG,rv,p,hz⟩:=I.list hq;obtain⟨f0,f1,f2,f3,f4,f5⟩:=hf it ⋯;have hl:=↥rv;exact wpAny_pyNext_list_end (I.ok.hd hc) st p.isList (by simp;ac_nf) λh' eb=>⟨rfl,I.turned (t':=s.toks) (λb o hb e=>eb b o hb e) f0 f1 f3 f4 f5⟩
 self:=λ_ _ _ _ _ st h=>wpAny_pyIter_listiter st h
theorem a7l(a it:Addr):Turn P w K tg (Itt K a) [it] it (λi h=>h.IsTupleIter it a i) where
 mem:=by simp
 obj:=λi h st b hb=>by
  have e:b=it:=by simpa using hb
  subst e;obtain⟨o,e,c,d⟩:=st;exact⟨o,e,λv z=>by rw[d] at z;cases z⟩
 keep:=λi h h' st k=>st.at λo e=>k it ⋯ o e
 item:=by intro X hP hw hK hc i bE s σ H E I hf st hg;subst hP hw hK;obtain⟨xs,x,hq,hx⟩:=hg;obtain⟨bG,rv,p,hz⟩:=I.tuple hq;obtain⟨u,hu,ru⟩:=rv.get hx;obtain⟨f0,f1,f2,f3,f4,f5⟩:=hf it ⋯;refine wpAny_pyNext_tuple_item st (show s.heap.IsTuple a bG.toArray from p) (x:=u) (by simpa using hu) λh' eU sb=>?_;have I1:Inv X bE σ H {s with heap:=h'}:=I.turned (t':=s.toks) (λb o hb e=>(sb.2 b hb).trans e) f0 f1 f3 f4 f5;obtain⟨o,e,c,d⟩:=id eU;exact⟨u,rfl,a8P (s:={s with heap:=h'}) e c d ∅ ⟨x,H,I1,ru,⟨rfl,λys hy=>by rw[I.tuple_inj hy hq];exact hx⟩,eU,λb hb=>(hf b hb).1⟩⟩
 done:=by intro X hP hw hK hc i bE s σ H E I hf st hg;subst hP hw hK;obtain⟨xs,hq,hx⟩:=hg;obtain⟨bG,rv,p,hz⟩:=I.tuple hq;obtain⟨f0,f1,f2,f3,f4,f5⟩:=hf it ⋯;have hl:=↥rv;exact wpAny_pyNext_tuple_end (I.ok.hd hc) st (show s.heap.IsTuple a bG.toArray from p) (by simp;ac_nf) λh' eb=>⟨rfl,I.turned (t':=s.toks) (λb o hb e=>eb b o hb e) f0 f1 f3 f4 f5⟩
 self:=λ_ _ _ _ _ st h=>wpAny_pyIter_tupleiter st h
theorem a7m(it:Addr)(lo:Int)(n:Nat):Turn P w K tg (Itr lo n) [it] it (λi h=>IsRangeIter h it (lo+(i:Nat)*1) ((n:Int)-(i:Nat)) 1) where
 mem:=by simp
 obj:=λi h st b hb=>by
  have e:b=it:=by simpa using hb
  subst e;exact⟨_,st,λv z=>by have z':Data.fields _=Data.cell v:=z;cases z'⟩
 keep:=λi h h' st k=>k it ⋯ _ st
 item:=by intro X hP hw hK hc i bE s σ H E I hf st hg;subst hP hw hK;obtain⟨f0,f1,f2,f3,f4,f5⟩:=hf it ⋯;have W:=Walks.range (prog:=X.prog) (w:=X.w) (I.ok.hd hc) it lo 1 n;refine W.item i s _ _ hg st λv h' tk hv eU kk=>?_;obtain⟨t,rfl⟩:=hv;have I1:Inv X bE σ H {s with heap:=h',toks:=tk}:=I.turned (λb o hb e=>kk b o (by simpa using hb) e) f0 f1 f3 f4 f5;refine⟨_,rfl,a8P (s:={s with heap:=h',toks:=tk}) (n:="range_iterator") eU rfl rfl ∅ ⟨.int (lo+i),H,I1,⟨t,?_⟩,⟨rfl,rfl⟩,eU,λb hb=>(hf b hb).1⟩⟩;rw[Int.mul_one]
 done:=by intro X hP hw hK hc i bE s σ H E I hf st hg;subst hP hw hK;obtain⟨f0,f1,f2,f3,f4,f5⟩:=hf it ⋯;exact wpAny_pyNext_range_end (I.ok.hd hc) st (by have:n<=i:=hg;ac_nf) λh' eb=>⟨rfl,I.turned (t':=s.toks) (λb o hb e=>eb b o hb e) f0 f1 f3 f4 f5⟩
 self:=λ_ _ _ _ _ st h=>wpAny_pyIter_rangeiter st h
variable{lo:Int}{p:Pos}{fp:List Addr}{iter:Expr}
section
def c0c(K:PySem.W.Frag)(tl:TE):TI:=λσ H R=>tl σ H λx H1=>∃a,x=.ref a/\(∃xs,SqL K H1 a xs)/\R (Itl K a) H1
def c2f(K:PySem.W.Frag)(tl:TE):TI:=λσ H R=>tl σ H λx H1=>∃a,x=.ref a/\(∃xs,SqT K H1 a xs)/\R (Itt K a) H1
theorem b4l{l:Expr}{tl:TE}(hl:PE X l tl):PI X tg l (c0c X.K tl):=by
 intro bE s σ H R I h;refine thn (hl bE s σ H _ I h) λv s1 zz=>?_;obtain⟨x,H1,I1,r1,q1⟩:=zz;obtain⟨a,e,⟨xs,hq⟩,q⟩:=q1;subst e;cases r1;obtain⟨bG,rv,p,hz⟩:=I1.list hq;refine wpAny_pyIter_list p.isList ?_;refine⟨s1.heap.objs.size,[s1.heap.objs.size],_,_,H1,rfl,I1.kept (t':=s1.toks) λb o e=>Heap.get?_push_of_some _ e,a9l a _,⟨_,Heap.get?_push_size _ rfl,rfl,rfl⟩,λb hb=>?_,q⟩;have e:b=s1.heap.objs.size:=by simpa using hb
 subst e;exact I1.fpOk (aj _) (I1.hok.fresh (aj _))
theorem b6V{l:Expr}{tl:TE}(hl:PE X l tl):PI X tg l (c2f X.K tl):=by
 intro bE s σ H R I h;refine thn (hl bE s σ H _ I h) λv s1 zz=>?_;obtain⟨x,H1,I1,r1,q1⟩:=zz;obtain⟨a,e,⟨xs,hq⟩,q⟩:=q1;subst e;cases r1;obtain⟨bG,rv,p,hz⟩:=I1.tuple hq;refine wpAny_pyIter_tuple (show s1.heap.IsTuple a bG.toArray from p) ?_;refine⟨s1.heap.objs.size,[s1.heap.objs.size],_,_,H1,rfl,I1.kept (t':=s1.toks) λb o e=>Heap.get?_push_of_some _ e,a7l a _,⟨_,Heap.get?_push_size _ rfl,rfl,rfl⟩,λb hb=>?_,q⟩;have e:b=s1.heap.objs.size:=by simpa using hb
 subst e;exact I1.fpOk (aj _) (I1.hok.fresh (aj _))
theorem b0P{s:Shared}{R:It->Hp->Prop}{E:Value->Shared->Prop}{hi:Int}{t u v:Tok}{tk:Nat}(I:Inv X bE σ H s)(h1: -(2^62)<=lo)(h2:lo<2^62)(h3: -(2^62)<=hi)(h4:hi<2^62)
 (q:R (Itr lo (hi-lo).toNat) H):wpAny (model X.prog X.w) X.A (pyIter (.ref s.heap.objs.size)) (PIE X bE σ tg R) E {s with heap:=s.heap.push {cls:=.type "range",data:=.fields #[.int lo t,.int hi u,.int 1 v]},toks:=tk}:=by
 refine wpAny_pyIter_range (IsRange.new ..) (small_one h1 h2 h3 h4) ?_;have I1:Inv X bE σ H {s with heap:=s.heap.push {cls:=.type "range",data:=.fields #[.int lo t,.int hi u,.int 1 v]},toks:=tk}:=I.kept λb o e=>Heap.get?_push_of_some _ e;refine⟨(s.heap.push {cls:=.type "range",data:=.fields #[.int lo t,.int hi u,.int 1 v]}).objs.size,[(s.heap.push {cls:=.type "range",data:=.fields #[.int lo t,.int hi u,.int 1 v]}).objs.size],_,_,H,rfl,
  I1.kept (t':=tk) λb o e=>Heap.get?_push_of_some _ e,a7m _ lo (hi-lo).toNat,?_,λb hb=>?_,q⟩
 · have e1:lo+((0:Nat):Int)*1=lo:=by simp
   have e2:(((hi-lo).toNat:Nat):Int)-((0:Nat):Int)=Builtin.Range.rangeSize lo hi 1:=by rw[rangeSize_one];split<;>ac_nf
   show IsRangeIter _ _ (lo+((0:Nat):Int)*1) ((((hi-lo).toNat:Nat):Int)-((0:Nat):Int)) 1;rw[e1,e2];exact Heap.get?_push_size _ rfl
 · have e:b=(s.heap.push {cls:=.type "range",data:=.fields #[.int lo t,.int hi u,.int 1 v]}).objs.size:=by simpa using hb
   subst e;exact I1.fpOk (aj _) (I1.hok.fresh (aj _))
def c0b(ta:TA):TI:=λσ H R=>ta σ H λvs H1=>∃j:Int,vs=[.int j]/\ -(2^62)<=j/\j<2^62/\R (Itr 0 j.toNat) H1
theorem a9B{a:Expr}(hg:Gl X "range")(hm:X.mg "range"=none)(ha:PA X [a] ta)(hs:starEach [a] X.env=[(false,eval a X.env)]:=by rfl):PI X tg (.Call (.Name "range" p) [a] [] pos) (c0b ta):=by
 intro bE s σ H R I h;refine Call_ (a1a I hg hm boot_range (PyProof.Rows.callWith_type1 (thn (ha pos bE s σ H _ I h) λus s1 zz=>?_) hs rfl));obtain⟨vs,H1,I1,r1,q1⟩:=zz;obtain⟨j,e,q1,q2,q⟩:=q1;subst e;cases r1 with
 |cons r rr=>
  cases rr;obtain⟨t,rfl⟩:=r;exact call_range_1 (b0P I1 nofun nofun q1 q2 (by simpa using q))
noncomputable def c1L(wi:TI)(g:TG)(tb:TS):TS:=λD σ H=>wi σ H λJ H1=>∃W:Nat->Nat->St->Hp->Prop,(∃m,W 0 m σ H1)/\∀i m σ H,W i m σ H→
 (J.stop i H/\D.nx σ H)∨(J.go i H/\∃N:St->Hp->Prop,(∀bS H',N bS H'->∃m',m'<m/\W (i+1) m' bS H')/\∀x H',J.yld i H x H'->g x σ H' λσ2 H2=>tb {D with nx:=N,ct:=N,bk:=D.nx} σ2 H2)
noncomputable def a3t(fp:List Addr)(h:Heap):List (Addr×Obj):=fp.filterMap λb=>(h.get? b).map λo=>(b,o)
theorem W6{o:Obj}(hb:b∈fp)(e:h.get? b=some o):(b,o)∈a3t fp h:=List.mem_filterMap.mpr ⟨b,hb,by rw[e];rfl⟩
theorem a9F{p:Addr×Obj}(hp:p∈a3t fp h):p.1∈fp/\h.get? p.1=some p.2:=by
 obtain⟨b,hb,e⟩:=List.mem_filterMap.mp hp;cases q:h.get? b with
 |none=>rw[q] at e;cases e
 |some o=>
  rw[q] at e;have e':(b,o)=p:=ay e;subst e';exact⟨hb,q⟩
theorem Inv.pinned{s:Shared}(I:Inv X bE σ H s)(hf:∀b∈fp,a2I X bE H b)(ho:∀b∈fp,∃o,s.heap.get? b=some o/\∀v,o.data≠.cell v):Inv X (bE++a3t fp s.heap) σ H s:=
 I.pins_of λp hp=>(aN.mp hp).elim (λz=>I.pin p (mem_append_right _ z)) λz=>by obtain⟨hb,e⟩:=a9F z;obtain⟨f0,f1,f2,_⟩:=hf p.1 hb;obtain⟨o,e',d⟩:=ho p.1 hb;rw[e] at e';cases e';exact⟨e,f0,f1,f2,d⟩
theorem Inv.unpinned{pl:List (Addr×Obj)}{s:Shared}(I:Inv X (bE++pl) σ H s):Inv X bE σ H s:=I.pins_of λp hp=>I.pin p (mem_append_right _ (mem_append_left _ hp))
theorem b6P{wi:TI}{g:TG}(hp:PassesOwn (model X.prog X.w) X.A X.env X.xe)(hc:X.calm=true)(hi:PI X tg iter wi)(hg:PG X tg g)(hb:PSs X body tb)
 (hs:∀x,foldedSetIterable iter X.env x=pure x:=by intro _;rfl):PS X (.For tg iter body [] pos) (c1L wi g tb):=by
 intro bE s σ H D I h;refine wpAny_For (thn (hi bE s σ H _ I h) λv s1 h1=>thn h1 λitv s2 h2=>?_) hs;obtain⟨it,fp,tn,J,H2,e,I2,T,st2,f2,W,⟨m0,w0⟩,eg⟩:=h2;subst e
 -- what stays true of the iterator's objects through the loop
 have stat:∀{H':Hp},(∀b∈fp,H' b=none)->∀b∈fp,a2I X bE H' b:=λhn b hb=>⟨hn b hb,(f2 b hb).2⟩;refine codeAny_forLoop_any (λn s'=>∃i bS H',Inv X bE bS H' s'/\tn i s'.heap/\(∀b∈fp,H' b=none)/\W i n bS H') ?_ m0 ⟨0,σ,H2,I2,st2,λb hb=>(f2 b hb).1,w0⟩;rintro n s3 ⟨i,σ3,H3,I3,st3,fr3,w3⟩;rcases eg i n σ3 H3 w3 with⟨stop,qn⟩|⟨go,N,hN,step⟩
 · refine wpAny_passesOwn hp (thn (T.done X rfl rfl rfl hc i bE s3 σ3 H3 X.xe I3 (stat fr3) st3 stop) λr s4 zz=>?_);obtain⟨hr,I4⟩:=zz;subst hr;exact wpAny_execs_nil ⟨σ3,H3,I4,qn⟩
 · refine wpAny_passesOwn hp (thn (T.item X rfl rfl rfl hc i bE s3 σ3 H3 X.xe I3 (stat fr3) st3 go) λr s4 zz=>?_);obtain⟨u,hr,h4⟩:=zz;subst hr;refine wpAny_passesOwn hp (thn h4 λ_ s5 zz=>?_);obtain⟨x,H5,I5,r5,y5,st5,fr5⟩:=zz;have I5':=I5.pinned (stat fr5) (T.obj _ _ st5);refine wpAny_passesOwn hp (thn (hg _ s5 σ3 H5 x u _ I5' r5 (step x H5 y5)) λ_ s6 zz=>?_);obtain⟨σ6,H6,I6,q6⟩:=zz;refine wpAny_passesOwn hp (thn (hb _ s6 σ6 H6 _ I6 q6) λf s7 q7=>?_);have again:∀{ed:St} {H7:Hp},Inv X (bE++a3t fp s5.heap) ed H7 s7->N ed H7->∃m,m<n/\∃i bS H',Inv X bE bS H' s7/\tn i s7.heap/\(∀b∈fp,H' b=none)/\W i m bS H':=fun{ed H7} I7 n7=>by obtain⟨m',hm,w7⟩:=hN ed H7 n7;refine⟨m',hm,i+1,ed,H7,I7.unpinned,T.keep _ _ _ st5 λb hb o e=>(I7.pin (b,o) (mem_append_right _ (mem_append_right _ (W6 hb e)))).1,λb hb=>?_,w7⟩;obtain⟨o,e,d⟩:=T.obj _ _ st5 b hb;exact(I7.pin (b,o) (mem_append_right _ (mem_append_right _ (W6 hb e)))).2.1
   cases f with
   |next=>obtain⟨ed,H7,I7,n7⟩:=q7;exact again I7 n7
   |cont=>obtain⟨ed,H7,I7,n7⟩:=q7;exact again I7 n7
   |brk=>obtain⟨ed,H7,I7,q7⟩:=q7;exact⟨ed,H7,I7.unpinned,q7⟩
   |ret v=>obtain⟨x7,ed,H7,I7,r7,q7⟩:=q7;exact⟨x7,ed,H7,I7.unpinned,r7,q7⟩
end
abbrev R2:=V->V->Hp->VK->Prop
def OpR(X:Cx)(f:Value->Value->Sem Value)(r:R2):Prop:=
 ∀(bE:List (Addr×Obj)) (s:Shared) (σ:St) (H:Hp) (x y:V) (v u:Value) (Q:VK),Inv X bE σ H s->l8 x v->l8 y u->r x y H Q→
  wpAny (model X.prog X.w) X.A (f v u) (EP X bE σ Q) X.xe s
def UnR(X:Cx)(f:Value->Sem Value)(r:V->Hp->VK->Prop):Prop:=
 ∀(bE:List (Addr×Obj)) (s:Shared) (σ:St) (H:Hp) (x:V) (v:Value) (Q:VK),Inv X bE σ H s->l8 x v->r x H Q→
  wpAny (model X.prog X.w) X.A (f v) (EP X bE σ Q) X.xe s
def J2(X:Cx)(f:Value)(r:List V->Hp->VK->Prop):Prop:=
 ∀(bE:List (Addr×Obj)) (s:Shared) (σ:St) (H:Hp) (xs:List V) (us:List Value) (Q:VK),Inv X bE σ H s->p7 xs us->r xs H Q→
  wpAny (model X.prog X.w) X.A (call f us) (EP X bE σ Q) X.xe s
def c2D(X:Cx)(r:V->Hp->(Bool->Hp->Prop)->Prop):Prop:=
 ∀(bE:List (Addr×Obj)) (s:Shared) (σ:St) (H:Hp) (x:V) (v:Value) (Q:Bool->Hp->Prop),Inv X bE σ H s->l8 x v->r x H Q→
  wpAny (model X.prog X.w) X.A (truthy v) (TP X bE σ Q) X.xe s
noncomputable def tOp(r:R2)(ta tb:TE):TE:=λσ H Q=>ta σ H λx H1=>tb σ H1 λy H2=>r x y H2 Q
def tUn(r:V->Hp->VK->Prop)(ta:TE):TE:=λσ H Q=>ta σ H λx H1=>r x H1 Q
def rI(C:Int->Int->Prop)(g:Int->Int->V):R2:=λx y H Q=>∃i j,x=.int i/\y=.int j/\C i j/\Q (g i j) H
noncomputable def rI0(g:Int->Int->V):R2:=λx y H Q=>∃i j,x=.int i/\y=.int j/\Q (g i j) H
def rU(g:Int->V):V->Hp->VK->Prop:=λx H Q=>∃i,x=.int i/\Q (g i) H
variable{f:Value->Value->Sem Value}
section
variable{a b:Expr}{ta tb tc:TE}
theorem b8u(ha:PE X a ta)(hb:PE X b tb){s:Shared}{R:V->V->Hp->Prop}(I:Inv X bE σ H s)
 (h:ta σ H λx H1=>tb σ H1 λy H2=>R x y H2)
 (hf:∀v u s2 x y H2,Inv X bE σ H2 s2->l8 x v->l8 y u->R x y H2->wpAny (model X.prog X.w) X.A (f v u) Q X.xe s2):
 wpAny (model X.prog X.w) X.A (eval a X.env) (λv bM=>wpAny (model X.prog X.w) X.A (eval b X.env) (λu di=>wpAny (model X.prog X.w) X.A (f v u) Q X.xe di) X.xe bM) X.xe s:=by
 refine thn (ha bE s σ H _ I h) λv s1 zz=>?_;obtain⟨x,H1,I1,r1,q1⟩:=zz;refine thn (hb bE s1 σ H1 _ I1 q1) λu s2 zz=>?_;obtain⟨y,H2,I2,r2,q2⟩:=zz;exact hf v u s2 x y H2 I2 r1 r2 q2
theorem b9C{op:Operator}{r:R2}(ho:OpR X (binaryOp op) r)(ha:PE X a ta)(hb:PE X b tb):PE X (.BinOp a op b pos) (tOp r ta tb):=by intro bE s σ H Q I h;exact wpAny_BinOp (b8u ha hb I h λv u s2 x y H2 I2 rx ry q=>ho bE s2 σ H2 x y v u Q I2 rx ry q)
theorem b9A{op:UnaryOp}{r:V->Hp->VK->Prop}(ho:UnR X (unaryOp op) r)(ha:PE X a ta):PE X (.UnaryOp op a pos) (tUn r ta):=by intro bE s σ H Q I h;exact UnaryOp_ (thn (ha bE s σ H _ I h) λv s1 ⟨x,H1,I1,r1,q1⟩=>ho bE s1 σ H1 x v Q I1 r1 q1)
theorem opI{C:Int->Int->Prop}{g:Int->Int->Int}
 (rule:∀(i j:Int) (t u:Tok) (s:Shared) (Q:Value->Shared->Prop) (E:Value->Shared->Prop),C i j->Q (.int (g i j) s.toks) {s with toks:=s.toks+1}->wpAny (model X.prog X.w) X.A (f (.int i t) (.int j u)) Q E s):
 OpR X f (rI C λi j=>.int (g i j)):=by
 intro bE s σ H x y v u Q I rx ry h;obtain⟨i,j,rfl,rfl,hc,q⟩:=h;obtain⟨t,rfl⟩:=rx;obtain⟨t',rfl⟩:=ry;exact rule i j t t' s _ _ hc ⟨.int (g i j),H,I.tok _,⟨_,rfl⟩,q⟩
theorem b9L{g:Int->Int->Int}
 (rule:∀(i j:Int) (t u:Tok) (s:Shared) (Q:Value->Shared->Prop) (E:Value->Shared->Prop),Q (.int (g i j) s.toks) {s with toks:=s.toks+1}->wpAny (model X.prog X.w) X.A (f (.int i t) (.int j u)) Q E s):
 OpR X f (rI0 λi j=>.int (g i j)):=by
 intro bE s σ H x y v u Q I rx ry h;obtain⟨i,j,rfl,rfl,q⟩:=h;obtain⟨t,rfl⟩:=rx;obtain⟨t',rfl⟩:=ry;exact rule i j t t' s _ _ ⟨.int (g i j),H,I.tok _,⟨_,rfl⟩,q⟩
theorem b4x{g:Int->Int->Bool}
 (rule:∀(i j:Int) (t u:Tok) (s:Shared) (Q:Value->Shared->Prop) (E:Value->Shared->Prop),Q (.bool (g i j)) s->wpAny (model X.prog X.w) X.A (f (.int i t) (.int j u)) Q E s):
 OpR X f (rI0 λi j=>.bl (g i j)):=by
 intro bE s σ H x y v u Q I rx ry h;obtain⟨i,j,rfl,rfl,q⟩:=h;obtain⟨t,rfl⟩:=rx;obtain⟨t',rfl⟩:=ry;exact rule i j t t' s _ _ ⟨.bl (g i j),H,I,rfl,q⟩
def c2J(i j:Int):Prop:=0<j/\j<1073741824
def c2I(i j:Int):Prop:=0<=j/\j<=1000000/\i.natAbs<2^64
def b8S(i j:Int):Prop:=(-(2^64)<i/\i<2^64)∨(-(2^64)<j/\j<2^64)
theorem b8S.ok{i j:Int}(h:b8S i j):IntMulOk i j:=by
 rcases h with⟨h1,h2⟩|⟨h1,h2⟩
 · exact .of_left (intBits_le_64 h1 h2)
 · exact .of_right (intBits_le_64 h1 h2)
theorem b7q:OpR X (binaryOp .Add) (rI0 λi j=>.int (i+j)):=b9L λ_ _ _ _ _ _ _ q=>add_int q
theorem b7h:OpR X (binaryOp .Sub) (rI0 λi j=>.int (i-j)):=b9L λ_ _ _ _ _ _ _ q=>sub_int q
theorem b7l:OpR X (binaryOp .Mult) (rI b8S λi j=>.int (i*j)):=opI λ_ _ _ _ _ _ _ hc q=>mul_int q hc.ok
theorem b4v:OpR X (binaryOp .FloorDiv) (rI c2J λi j=>.int (i/j)):=opI λi j _ _ _ _ _ hc q=>by have h1:(0:Int)<j:=hc.1;have h2:j<1073741824:=hc.2;exact floordiv_int nofun (by rw[Int.fdiv_eq_ediv_of_nonneg i nofun];exact q) (.inl (PyProof.noPylong_small nofun))
theorem b7m:OpR X (binaryOp .Mod) (rI (λ_ j=>0<j) λi j=>.int (i%j)):=opI λi j _ _ _ _ _ hc q=>by have h1:(0:Int)<j:=hc;exact mod_int' nofun (by rw[Int.fmod_eq_emod_of_nonneg i nofun];exact q)
theorem b7i:OpR X (binaryOp .Pow) (rI c2I λi j=>.int (i^j.toNat)):=opI λ_ _ _ _ _ _ _ hc q=>pow_int_small hc.1 hc.2.1 hc.2.2 q
theorem unI{f:Value->Sem Value}{g:Int->Int}
 (rule:∀(i:Int) (t:Tok) (s:Shared) (Q:Value->Shared->Prop) (E:Value->Shared->Prop),Q (.int (g i) s.toks) {s with toks:=s.toks+1}->wpAny (model X.prog X.w) X.A (f (.int i t)) Q E s):
 UnR X f (rU λi=>.int (g i)):=by
 intro bE s σ H x v Q I rx h;obtain⟨i,rfl,q⟩:=h;obtain⟨t,rfl⟩:=rx;exact rule i t s _ _ ⟨.int (g i),H,I.tok _,⟨_,rfl⟩,q⟩
theorem b6l:UnR X (unaryOp .USub) (rU λi=>.int (-i)):=unI λ_ _ _ _ _ q=>neg_int q
end
noncomputable def scal:V->V->Bool
 |.non,.non=>true|.non,.int _=>true|.int _,.non=>true|.non,.bl _=>true|.bl _,.non=>true|.non,.str _=>true|.str _,.non=>true
 |.int _,.int _=>true|.bl _,.bl _=>true|.str _,.str _=>true|.byt _,.byt _=>true
 |.int _,.str _=>true|.str _,.int _=>true|.bl _,.str _=>true|.str _,.bl _=>true
 |_,_=>false
def rEq:R2:=λx y H Q=>scal x y=true/\Q (.bl (decide (x=y))) H
def rNe:R2:=λx y H Q=>scal x y=true/\Q (.bl (!decide (x=y))) H
theorem a8X{i j:Int}:decide (V.int i=V.int j)=(i==j):=by rw[Bool.eq_iff_iff];simp
theorem b2W{i j:Bool}:decide (V.bl i=V.bl j)=(i==j):=by rw[Bool.eq_iff_iff];simp
theorem a8W{i j:Str}:decide (V.str i=V.str j)=(i==j):=by rw[Bool.eq_iff_iff];simp
theorem a8Y{i j:Array UInt8}:decide (V.byt i=V.byt j)=(i.toList==j.toList):=by rw[Bool.eq_iff_iff];cases i;cases j;simp
variable{op':CmpOp}{bG:List Value}
section
variable{a b:Expr}{ta tb tc:TE}
theorem u6{s:Shared}{Q:VK}{k k':Bool}(I:Inv X bE σ H s)(q:Q (.bl k) H)(e:k=k'):EP X bE σ Q (.bool k') s:=by subst e;exact⟨.bl k,H,I,rfl,q⟩
theorem b9K:OpR X (compareOp .Eq) rEq:=by
 intro bE s σ H x y v u Q I rx ry h;obtain⟨hs,q⟩:=h;cases x with
 |non=>
  cases rx;cases y with
  |non=>cases ry;exact PySem.EqNone.eq_none_none (u6 I q ⋯)
  |bl j=>cases ry;exact PySem.EqNone.eq_none_bool (u6 I q ⋯)
  |int j=>obtain⟨t',rfl⟩:=ry;exact PySem.EqNone.eq_none_int (u6 I q ⋯)
  |str j=>obtain⟨t',rfl⟩:=ry;exact PySem.EqNone.eq_none_str (u6 I q ⋯)
  |_=>exact absurd (show false=true from hs) bt
 |bl i=>
  cases rx;cases y with
  |non=>cases ry;exact PySem.EqNone.eq_bool_none (u6 I q ⋯)
  |bl j=>cases ry;exact eq_bool (u6 I q b2W)
  |str j=>obtain⟨t',rfl⟩:=ry;exact PySem.EqMixed.eq_bool_str (u6 I q ⋯)
  |_=>exact absurd (show false=true from hs) bt
 |int i=>
  obtain⟨t,rfl⟩:=rx;cases y with
  |non=>cases ry;exact PySem.EqNone.eq_int_none (u6 I q ⋯)
  |int j=>obtain⟨t',rfl⟩:=ry;exact eq_int (u6 I q a8X)
  |str j=>obtain⟨t',rfl⟩:=ry;exact PySem.EqMixed.eq_int_str (u6 I q ⋯)
  |_=>exact absurd (show false=true from hs) bt
 |str i=>
  obtain⟨t,rfl⟩:=rx;cases y with
  |non=>cases ry;exact PySem.EqNone.eq_str_none (u6 I q ⋯)
  |bl j=>cases ry;exact PySem.EqMixed.eq_str_bool (u6 I q ⋯)
  |int j=>obtain⟨t',rfl⟩:=ry;exact PySem.EqMixed.eq_str_int (u6 I q ⋯)
  |str j=>obtain⟨t',rfl⟩:=ry;exact eq_str (u6 I q a8W)
  |_=>exact absurd (show false=true from hs) bt
 |byt i=>
  obtain⟨t,rfl⟩:=rx;cases y with
  |byt j=>obtain⟨t',rfl⟩:=ry;exact PySem.W.eq_bytes (u6 I q a8Y)
  |_=>exact absurd (show false=true from hs) bt
 |_=>cases y<;>exact absurd (show false=true from hs) bt
theorem b9F:OpR X (compareOp .NotEq) rNe:=by
 intro bE s σ H x y v u Q I rx ry h;obtain⟨hs,q⟩:=h;cases x with
 |non=>
  cases rx;cases y with
  |non=>cases ry;exact PySem.EqNone.ne_none_none (u6 I q ⋯)
  |bl j=>cases ry;exact PySem.EqNone.ne_none_bool (u6 I q ⋯)
  |int j=>obtain⟨t',rfl⟩:=ry;exact PySem.EqNone.ne_none_int (u6 I q ⋯)
  |str j=>obtain⟨t',rfl⟩:=ry;exact PySem.EqNone.ne_none_str (u6 I q ⋯)
  |_=>exact absurd (show false=true from hs) bt
 |bl i=>
  cases rx;cases y with
  |non=>cases ry;exact PySem.EqNone.ne_bool_none (u6 I q ⋯)
  |bl j=>cases ry;exact ne_bool (u6 I q (congrArg not b2W))
  |str j=>obtain⟨t',rfl⟩:=ry;exact PySem.EqMixed.ne_bool_str (u6 I q ⋯)
  |_=>exact absurd (show false=true from hs) bt
 |int i=>
  obtain⟨t,rfl⟩:=rx;cases y with
  |non=>cases ry;exact PySem.EqNone.ne_int_none (u6 I q ⋯)
  |int j=>obtain⟨t',rfl⟩:=ry;exact ne_int (u6 I q (congrArg not a8X))
  |str j=>obtain⟨t',rfl⟩:=ry;exact PySem.EqMixed.ne_int_str (u6 I q ⋯)
  |_=>exact absurd (show false=true from hs) bt
 |str i=>
  obtain⟨t,rfl⟩:=rx;cases y with
  |non=>cases ry;exact PySem.EqNone.ne_str_none (u6 I q ⋯)
  |bl j=>cases ry;exact PySem.EqMixed.ne_str_bool (u6 I q ⋯)
  |int j=>obtain⟨t',rfl⟩:=ry;exact PySem.EqMixed.ne_str_int (u6 I q ⋯)
  |str j=>obtain⟨t',rfl⟩:=ry;exact ne_str (u6 I q (congrArg not a8W))
  |_=>exact absurd (show false=true from hs) bt
 |byt i=>
  obtain⟨t,rfl⟩:=rx;cases y with
  |byt j=>obtain⟨t',rfl⟩:=ry;exact PySem.W.ne_bytes (u6 I q (congrArg not a8Y))
  |_=>exact absurd (show false=true from hs) bt
 |_=>cases y<;>exact absurd (show false=true from hs) bt
theorem b9G:OpR X (compareOp .Lt) (rI0 λi j=>.bl (decide (i<j))):=b4x λ_ _ _ _ _ _ _ q=>lt_int q
theorem b9H:OpR X (compareOp .LtE) (rI0 λi j=>.bl (decide (i<=j))):=b4x λ_ _ _ _ _ _ _ q=>le_int q
theorem b9I:OpR X (compareOp .Gt) (rI0 λi j=>.bl (decide (j<i))):=b4x λ_ _ _ _ _ _ _ q=>gt_int q
theorem b9J:OpR X (compareOp .GtE) (rI0 λi j=>.bl (decide (j<=i))):=b4x λ_ _ _ _ _ _ _ q=>ge_int q
theorem a9D:OpR X (compareOp .In) (λx y H Q=>∃i j,x=.str i/\y=.str j/\Q (.bl (!(Builtin.Str.occurrences j i 0 ↥j 1).isEmpty)) H):=by intro bE s σ H x y v u Q I rx ry h;obtain⟨i,j,rfl,rfl,q⟩:=h;obtain⟨t,rfl⟩:=rx;obtain⟨t',rfl⟩:=ry;exact in_str (u6 I q rfl)
theorem OpR.or{r r':R2}(h:OpR X f r)(h':OpR X f r'):OpR X f (λx y H Q=>r x y H Q∨r' x y H Q):=by
 intro bE s σ H x y v u Q I rx ry q;rcases q with q|q
 · exact h bE s σ H x y v u Q I rx ry q
 · exact h' bE s σ H x y v u Q I rx ry q
theorem a5f{r:R2}(ho:OpR X (compareOp op) r)(ha:PE X a ta)(hb:PE X b tb)(hm:behindInMarks op b=false):PE X (.Compare a [op] [b] pos) (tOp r ta tb):=by intro bE s σ H Q I h;exact wpAny_Compare1 (b8u ha hb I h λv u s2 x y H2 I2 rx ry q=>ho bE s2 σ H2 x y v u Q I2 rx ry q) hm
noncomputable def b0w(t:TE):TT:=λσ H Q=>t σ H λx H'=>∃k,x=.bl k/\Q k H'
theorem a5e{r:R2}(ho:OpR X (compareOp op) r)(ha:PE X a ta)(hb:PE X b tb)(hm:behindInMarks op b=false):PT X (.Compare a [op] [b] pos) (b0w (tOp r ta tb)):=by
 intro bE s σ H Q I h;refine wpAny_isTrue_Compare1 (thn (ha bE s σ H _ I h) λv s1 ⟨x,H1,I1,r1,q1⟩=>thn (hb bE s1 σ H1 _ I1 q1) λu s2 ⟨y,H2,I2,r2,q2⟩=>
  thn (ho bE s2 σ H2 x y v u _ I2 r1 r2 q2) λc s3 ⟨z,H3,I3,r3,k,e,q3⟩=>?_) hm
 subst e;cases r3;exact wpAny_truthy_bool ⟨H3,I3,q3⟩
noncomputable def a7p(r r':R2)(ta tb tc:TE):TE:=λσ H Q=>ta σ H λx H1=>tb σ H1 λy H2=>r x y H2 λz H3=>∃k,z=.bl k∧
 (if k=true then tc σ H3 λw' H4=>r' y w' H4 Q else Q (.bl false) H3)
theorem b1o{r r':R2}(ho:OpR X (compareOp op) r)(dG:OpR X (compareOp op') r')(ha:PE X a ta)(hb:PE X b tb)(hc:PE X c tc)
 (hm:lastMarks [op,op'] [b,c]=false:=by with_unfolding_all rfl):PE X (.Compare a [op,op'] [b,c] pos) (a7p r r' ta tb tc):=by
 intro bE s σ H Q I h;refine Compare_chain (thn (ha bE s σ H _ I h) λv s1 ⟨x,H1,I1,r1,q1⟩=>chain_link (thn (hb bE s1 σ H1 _ I1 q1) λu s2 ⟨y,H2,I2,r2,q2⟩=>
  thn (ho bE s2 σ H2 x y v u _ I2 r1 r2 q2) λd s3 ⟨z,H3,I3,r3,k,e,q3⟩=>?_)) hm
 subst e;cases r3;refine wpAny_truthy_bool ?_;cases k with
 |false=>exact ite_ff ⟨.bl false,H3,I3,rfl,q3⟩
 |true=>exact ite_tt (chain_last (thn (hc bE s3 σ H3 _ I3 q3) λw' s4 ⟨z',H4,I4,r4,q4⟩=>dG bE s4 σ H4 y z' u w' Q I4 r2 r4 q4))
theorem b0V{r r':R2}(ho:OpR X (compareOp op) r)(dG:OpR X (compareOp op') r')(ha:PE X a ta)(hb:PE X b tb)(hc:PE X c tc)
 (hm:lastMarks [op,op'] [b,c]=false:=by with_unfolding_all rfl):PT X (.Compare a [op,op'] [b,c] pos) (b0w (a7p r r' ta tb tc)):=by
 intro bE s σ H Q I h;refine isTrue_chain (thn (ha bE s σ H _ I h) λv s1 ⟨x,H1,I1,r1,q1⟩=>test_link (thn (hb bE s1 σ H1 _ I1 q1) λu s2 ⟨y,H2,I2,r2,q2⟩=>
  thn (ho bE s2 σ H2 x y v u _ I2 r1 r2 q2) λd s3 ⟨z,H3,I3,r3,k,e,q3⟩=>?_)) hm
 subst e;cases r3;refine wpAny_truthy_bool ?_;cases k with
 |false=>
  obtain⟨k',e',q'⟩:=q3;cases e';exact ite_ff ⟨H3,I3,q'⟩
 |true=>
  refine ite_tt (test_last (thn (hc bE s3 σ H3 _ I3 q3) λw' s4 ⟨z',H4,I4,r4,q4⟩=>thn (dG bE s4 σ H4 y z' u w' _ I4 r2 r4 q4) λd' s5 zz=>?_));obtain⟨z2,H5,I5,r5,k2,e2,q5⟩:=zz;subst e2;cases r5;exact wpAny_truthy_bool ⟨H5,I5,q5⟩
def c1B(K:PySem.W.Frag)(x:V)(H:Hp)(k:Bool):Prop:=
 match x with
 |.non=>k=false
 |.bl b=>k=b
 |.int i=>k=(i !=0)
 |.str y=>↥y<=sizeLine/\k=((↥y:Int) !=0)
 |.byt y=>y.size<=sizeLine/\k=((y.size:Int) !=0)
 |.ref p=>(∃xs,SqL K H p xs/\k=!xs.isEmpty)∨(∃xs,SqT K H p xs/\k=!xs.isEmpty)∨∃bF,H p=some (.dK bF)/\k=!bF.isEmpty
 |_=>False
theorem a7J{κ:Type}{bF:List (κ×V)}{vs:List (κ×Value)}(r:KV bF vs):(!vs.isEmpty)=!bF.isEmpty:=by cases r<;>rfl
theorem a3K{xs:List V}(r:p7 xs bG):(!bG.toArray.isEmpty)=!xs.isEmpty:=by cases r<;>simp
theorem a0Z:(sizeLine:Nat)<2^63:=by rw[sizeLine_eq];decide
theorem b6q:c2D X (λx H Q=>∃k,c1B X.K x H k/\Q k H):=by
 intro bE s σ H x v Q I rx h;obtain⟨k,e,q⟩:=h;have hl:=a0Z;have hs:sizeLine=16777216:=sizeLine_eq;cases x with
 |non=>
  cases rx;have e':k=false:=e;subst e';exact truthy_none ⟨H,I,q⟩
 |bl b=>
  cases rx;have e':k=b:=e;subst e';exact wpAny_truthy_bool ⟨H,I,q⟩
 |int i=>
  obtain⟨t,rfl⟩:=rx;have e':k=(i !=0):=e;subst e';exact PySem.P.truthy_int ⟨H,I,q⟩
 |str y=>
  obtain⟨t,rfl⟩:=rx;obtain⟨hy,e'⟩:↥y<=sizeLine/\k=((↥y:Int) !=0):=e;subst e';exact PySem.P.truthy_str nofun ⟨H,I.tok _,q⟩
 |byt y=>
  obtain⟨t,rfl⟩:=rx;obtain⟨hy,e'⟩:y.size<=sizeLine/\k=((y.size:Int) !=0):=e;subst e';exact PySem.W.truthy_bytes nofun ⟨H,I.tok _,q⟩
 |ref p=>
  cases rx;have e':(∃xs,SqL X.K H p xs/\k=!xs.isEmpty)∨(∃xs,SqT X.K H p xs/\k=!xs.isEmpty)∨∃bF,H p=some (.dK bF)/\k=!bF.isEmpty:=e;rcases e' with⟨xs,hx,e'⟩|⟨xs,hx,e'⟩|⟨bF,hx,e'⟩
  · subst e';obtain⟨bG,r,pl,hz⟩:=I.list hx;have bU:=↥r;exact wpAny_truthy_list pl.isList (by simp only[size_toArray];ac_nf) ⟨H,I.tok _,by rw[a3K r];exact q⟩
  · subst e';obtain⟨bG,r,pl,hz⟩:=I.tuple hx;have bU:=↥r;exact truthy_tuple pl (by simp only[size_toArray];ac_nf) ⟨H,I.tok _,by rw[a3K r];exact q⟩
  · subst e';obtain⟨hz,hS,vs,r,m⟩:↥bF<=sizeLine/\(p==sysModules)=false/\∃vs,KV bF vs/\s.heap.DictOf (z9 X.prog X.w) p vs:=I.hok p _ hx;have bU:↥bF=↥vs:=Paired.length r;exact wpAny_truthy_dict hS m nofun ⟨H,I.tok _,by rw[a7J r];exact q⟩
 |_=>exact(show False from e).elim
theorem b0S(ha:PE X a ta)(he:∀de,isTrue a X.env de=(do let v←de;standAt a.pos;holding [v] (truthy v))):
 PT X a (λσ H Q=>ta σ H λx H'=>∃k,c1B X.K x H' k/\Q k H'):=by
 intro bE s σ H Q I h;exact isTrue_plain (thn (ha bE s σ H _ I h) λv s1 ⟨x,H1,I1,r1,q1⟩=>b6q bE s1 σ H1 x v Q I1 r1 q1) (he _)
theorem a7x:OpR X (binaryOp .Add) (λx y H Q=>∃i j,x=.str i/\y=.str j/\↥i+↥j<=sizeLine/\Q (.str (i++j)) H):=by intro bE s σ H x y v u Q I rx ry h;obtain⟨i,j,rfl,rfl,hz,q⟩:=h;obtain⟨t,rfl⟩:=rx;obtain⟨t',rfl⟩:=ry;exact add_str (λt' tk=>⟨.str (i++j),H,I.tok _,⟨_,rfl⟩,q⟩) hz
theorem V1{x:V}(r:p7 [x] us):∃u,us=[u]/\l8 x u:=by
 cases r with
 |cons r1 r2=>cases r2;exact⟨_,rfl,r1⟩
theorem a4k{x:V}(r:p7 [x,y] us):∃u w',us=[u,w']/\l8 x u/\l8 y w':=by
 cases r with
 |cons r1 r2=>
  cases r2 with
  |cons r3 r4=>cases r4;exact⟨_,_,rfl,r1,r3⟩
theorem b0e(hc:X.calm=true):J2 X (.builtin "max") (λxs H Q=>∃i j,xs=[.int i,.int j]/\Q (.int (if j>i then j else i)) H):=by
 intro bE s σ H xs us Q I r h;obtain⟨i,j,rfl,q⟩:=h;obtain⟨u,w',rfl,⟨t,rfl⟩,⟨t',rfl⟩⟩:=a4k r;refine max_two_ints (I.ok.hd hc) λh' tk k=>⟨_,H,I.kept k,?_,q⟩
 by_cases hj:j>i
 · rw[az hj,az hj];exact⟨_,rfl⟩
 · rw[aA hj,aA hj];exact⟨_,rfl⟩
theorem a4K:J2 X (.type "int") (λxs H Q=>(∃i,xs=[.int i]/\Q (.int i) H)∨∃k,xs=[.bl k]/\Q (.int (if k then 1 else 0)) H):=by
 intro bE s σ H xs us Q I r h;rcases h with⟨i,rfl,q⟩|⟨k,rfl,q⟩
 · obtain⟨u,rfl,t,rfl⟩:=V1 r;exact call_int_int ⟨.int i,H,I,⟨_,rfl⟩,q⟩
 · obtain⟨u,rfl,r1⟩:=V1 r;cases r1;exact call_int_bool ⟨.int (if k then 1 else 0),H,I.tok _,⟨_,rfl⟩,q⟩
theorem a5N:J2 X (.type "str") (λxs H Q=>∃i,xs=[.int i]/\i.natAbs.log2<1920/\Q (.str (toString i)) H):=by intro bE s σ H xs us Q I r h;obtain⟨i,rfl,hz,q⟩:=h;obtain⟨u,rfl,t,rfl⟩:=V1 r;exact PySem.P.str_of_int hz ⟨.str _,H,I.tok _,⟨_,rfl⟩,q⟩
end
structure ObjM(h:Heap)(x dx C:Addr)(mA:Str->Option Value):Prop where
 obj:h.get? x=some (PySem.W.instObj C dx)
 ns:h.Ns1 dx mA
 ne:dx≠x
variable{dx:Addr}{mA:Str->Option Value}
theorem a9K(n:h.Ns1 dx mA):∃od,h.get? dx=some od/\∀name,PySem.W.lookIn name od=some (mA name):=by
 obtain⟨o,es,ep,ho,hd,hk,_,hm⟩:=n;refine⟨o,ho,λname=>?_⟩;have e:=hm name;unfold nsFind findBy at e;rw[←Array.find?_toList] at e;unfold PySem.W.lookIn;rw[hd]
 dsimp only
 split
 · rename_i y q;rw[q] at e;exact congrArg some e
 · rename_i q;rw[q] at e;have a:es.toList.any (·.refKey)=false:=by rw[List.any_eq_false];intro y hy;obtain⟨z,t,hkey⟩:=hk y (Array.mem_toList_iff.mp hy);simp[DictEntry.refKey,hkey]
   have a':¬es.toList.any (·.refKey)=true:=by rw[a];exact bt
   rw[aA a'];exact congrArg some e
variable{C:Addr}
theorem ObjM.look{x:Addr}(I:ObjM h x dx C mA):∃od,PySem.W.InstAt h x (PySem.W.instObj C dx) C (some od)/\∀name,PySem.W.lookIn name od=some (mA name):=
 let⟨od,ho,hl⟩:=a9K I.ns
 ⟨od,⟨I.obj,rfl,rfl,ho⟩,hl⟩
variable{expr:Bool}{vs:List Value}{kw:List (Str×Value)}
section
variable{prog:Program}{E:Value->Shared->Prop}{s:Shared}{x f:Addr}{name:Str}{v:Value}
theorem b5c(X:K.In s.heap)(I:ObjM s.heap x dx C mA)(hg:PySem.W.plainGet K C name=true)(hh:PySem.W.hasDictIn K C=true)
 (ha:PySem.W.findIn K (.ref C) name=some none) (hv:mA name=some v) (hv':PySem.W.handedIn v=true) (h:Q v {s with toks:=s.toks+1}):
 wpAny (model prog w) A (getAttr (.ref x) name expr) Q E s:=by
 obtain⟨od,J,hl⟩:=I.look;exact PySem.W.get_value X J (PySem.W.plainGet_of hg).1 (PySem.W.findObj_own hh ha rfl (by rw[hl,hv])) hv' h
theorem b3T{ns:List Str}{Q:Unit->Shared->Prop}(X:K.In s.heap)(I:ObjM s.heap x dx C mA)
 (hs:PySem.W.findIn K (.ref C) "__setattr__"=some (some (.builtin "object.__setattr__"))) (hp:PySem.W.plainOver K C=true) (ht:PySem.W.takerIn K C name=some none) (hh:PySem.W.hasDictIn K C=true)
 (hw:PySem.Within mA ns) (hsz:↥ns<=sizeLine)
 (h:∀h',ObjM h' x dx C (λy=>if y=name then some v else mA y)->Heap.SameBut dx s.heap h'->Q () {s with heap:=h',toks:=s.toks+2}):
 wpAny (model prog w) A (setAttr (.ref x) name v) Q E s:=by
 obtain⟨od,J,hl⟩:=I.look;refine PySem.W.set_plain X J hs (PySem.W.osa_open (s:={s with toks:=s.toks+1}) (r:=none) X J hp ht λb=>?_);obtain⟨cd,hc,hd'⟩:=PySem.W.any_some hh;have hx:s.heap.get? x=some ⟨.ref C,some dx,.plain,#[]⟩:=I.obj;refine wpAny_bind (wpAny_pure (wpAny_bind (wpAny_bind (wpAny_loadPart hx (wpAny_bind (PySem.W.Looks.here (s:={s with toks:=s.toks+1}) (PySem.W.looks_clsIn X hc) ?_))))));rw[hd'];refine wpAny_pure (a:=some dx) (wpAny_bind (wpAny_pure (wpAny_bind ?_)));refine wpAny_nsSet1 (s:={s with toks:=s.toks+1}) I.ns λh' hn2 hs2=>?_;obtain⟨oD,esD,epD,hoD,hdD,hcD⟩:=hn2.count (PySem.Within.cons name v hw);refine wpAny_bind (wpAny_lookBehind hoD (by rw[hdD];exact pastItsLine_dict (aU hcD (by rw[length_cons];ac_nf))) ?_);exact wpAny_pure (h _ ⟨(hs2.2 _ (Ne.symm I.ne)).trans I.obj,hn2,I.ne⟩ hs2)
theorem b1A{R:Result->Shared->Prop}(X:K.In s.heap)(hm:PySem.W.makesIn K C=true)
 (hi:PySem.W.findIn K (.ref C) "__init__"=some (~~~f)) (hf:PySem.W.typeIn K (.ref f)=some (.type "function"))
 (h:codeAny (model prog w) (A.under (.builtin "type.__call__" ⟨.ref C::vs,kw⟩)) (.call (.ref f) ⟨.ref (s.heap.objs.size+1)::vs,kw⟩) (PySem.W.InitBack (s.heap.objs.size+1) R)
  {s with heap:=(s.heap.push PySem.W.emptyDict).push (PySem.W.instObj C s.heap.objs.size)}):
 codeAny (model prog w) A (.call (.ref C) ⟨vs,kw⟩) R s:=by
 obtain⟨hh,g,d,t,os⟩:=s;exact PySem.W.make_core (PySem.W.makes_of X hm) (PySem.W.looks_findIn X hi) (λself=>PySem.W.bind_fn X self hf) (.inl rfl) h
end
noncomputable def W4(f:Str)(v:V):List (Str×V)->List (Str×V)
 |[]=>[(f,v)]
 |(g,x)::r=>if g=f then(g,v)::r else(g,x)::W4 f v r
theorem a2u(f g:Str)(v:V):∀fs:List (Str×V),(W4 f v fs).lookup g=if g=f then some v else fs.lookup g
 |[]=>by
  show List.lookup g [(f,v)]=_
  by_cases h:g=f
  · have hb:(g==f)=true:=beq_iff_eq.mpr h;simp only[List.lookup,hb,az h]
  · have hb:(g==f)=false:=beq_eq_false_iff_ne.mpr h;simp only[List.lookup,hb,aA h]
 | (k,x)::r=>by
  have ih:=a2u f g v r;rw[show W4 f v ((k,x)::r)=(if k=f then(k,v)::r else(k,x)::W4 f v r) from rfl]
  by_cases hk:k=f
  · rw[az hk]
    by_cases h:g=k
    · have hb:(g==k)=true:=beq_iff_eq.mpr h;simp only[List.lookup,hb,az (h.trans hk)]
    · have hb:(g==k)=false:=beq_eq_false_iff_ne.mpr h;simp only[List.lookup,hb,aA (λe:g=f=>h (e.trans hk.symm))]
  · rw[aA hk]
    by_cases h:g=k
    · have hb:(g==k)=true:=beq_iff_eq.mpr h;simp only[List.lookup,hb,aA (λe:g=f=>hk (h.symm.trans e))]
    · have hb:(g==k)=false:=beq_eq_false_iff_ne.mpr h;simp only[List.lookup,hb];exact ih
theorem a2a(f:Str)(v:V):∀fs:List (Str×V),f∈(W4 f v fs).map (·.1)/\∀g,g∈fs.map (·.1)->g∈(W4 f v fs).map (·.1)
 |[]=>⟨by simp[W4],λg h=>by simp at h⟩
 | (k,x)::r=>by
  obtain⟨i1,i2⟩:=a2a f v r;rw[show W4 f v ((k,x)::r)=(if k=f then(k,v)::r else(k,x)::W4 f v r) from rfl]
  by_cases hk:k=f
  · rw[az hk];subst hk;exact⟨by simp,λg h=>by simpa using h⟩
  · rw[aA hk];refine⟨?_,λg h=>?_⟩
    · rw[map_cons];exact aF _ i1
    · rw[map_cons] at h⊢;rcases aH.mp h with e|e
      · exact aH.mpr (.inl e)
      · exact aF _ (i2 g e)
theorem a2v(f:Str)(v:V):∀fs:List (Str×V),↥(W4 f v fs)<=↥fs+1
 |[]=>by simp[W4]
 |(k,x)::r=>by
  have ih:=a2v f v r;rw[show W4 f v ((k,x)::r)=(if k=f then(k,v)::r else(k,x)::W4 f v r) from rfl]
  by_cases hk:k=f
  · rw[az hk,length_cons,length_cons];ac_nf
  · rw[aA hk,length_cons,length_cons];ac_nf
theorem a0J.some_of{o:Option Value}(r:a0J (some v) o):∃u,o=some u/\l8 v u:=by
 cases o with
 |none=>exact(show False from r).elim
 |some u=>exact⟨u,rfl,r⟩
theorem a9S(r:l8 v u):PySem.W.handedIn u=true:=by
 cases v with
 |non=>cases (show u=Value.none from r);rfl
 |bl b=>cases (show u=Value.bool b from r);rfl
 |int i=>obtain⟨t,e⟩:=(show∃t,u=Value.int i t from r);cases e;rfl
 |str x=>obtain⟨t,e⟩:=(show∃t,u=Value.str x t from r);cases e;rfl
 |byt b=>obtain⟨t,e⟩:=(show∃t,u=Value.bytes b t from r);cases e;rfl
 |flt b=>obtain⟨t,e⟩:=(show∃t,u=Value.float b t from r);cases e;rfl
 |ref a=>cases (show u=Value.ref a from r);rfl
 |ty n=>cases (show u=Value.type n from r);rfl
section
variable{fs fs':List (Str×V)}
theorem a5w(hok:HOk P w H h)(e:H a=some (.ins C dx fs)):∃mA,ObjM h a dx C mA/\(∀f,a0J (fs.lookup f) (mA f))/\PySem.Within mA (fs.map (·.1))/\↥fs<=1000/\H dx=some (.own a):=by obtain⟨d,z,ne,ob,mA,n,r,q⟩:=(show D2 P w H h a (.ins C dx fs) from hok a _ e);exact⟨mA,⟨ob,n,ne⟩,r,q,z,d⟩
end
structure Cls(K:PySem.W.Frag)(C:Addr):Prop where
 pg:PySem.W.plainGet K C Str.empty=true
 hd:PySem.W.hasDictIn K C=true
 po:PySem.W.plainOver K C=true
 sa:PySem.W.findIn K (.ref C) "__setattr__"=some (some (.builtin "object.__setattr__"))
theorem Cls.get(c:Cls K C)(f:Str):PySem.W.plainGet K C f=true:=c.pg
def a0v(K:PySem.W.Frag)(C:Addr)(f:Str):Prop:=PySem.W.findIn K (.ref C) f=some none
theorem a0v.taker{f:Str}(n:a0v K C f):PySem.W.takerIn K C f=some none:=by unfold PySem.W.takerIn;rw[show PySem.W.findIn K (.ref C) f=some none from n];rfl
variable{prog:Program}{env:Env}
section
variable{s:Shared}{fs:List (Str×V)}{f:Str}{E:Value->Shared->Prop}
theorem a7L{b:Bool}(I:Inv X bE σ H s)(e:H a=some (.ins C dx fs))(c:Cls X.K C)(n:a0v X.K C f)(l:fs.lookup f=some v)
 (h:∀u s',Inv X bE σ H s'->l8 v u->Q u s'):wpAny (model X.prog X.w) A (getAttr (.ref a) f b) Q E s:=by
 obtain⟨mA,O,r,_,_,_⟩:=a5w I.hok e;obtain⟨u,hu,ru⟩:=a0J.some_of (v:=v) (o:=mA f) (by rw[←l];exact r f);exact b5c I.kIn O (c.get f) c.hd n hu (a9S ru) (h u _ (I.tok _) ru)
theorem a7u{Q:Unit->Shared->Prop}(I:Inv X bE σ H s)(e:H a=some (.ins C dx fs))(c:Cls X.K C)(n:a0v X.K C f)(hl:↥fs<1000)(ry:l8 y u)
 (h:∀s',Inv X bE σ (upd H a (.ins C dx (W4 f y fs))) s'->Q () s'):wpAny (model X.prog X.w) A (setAttr (.ref a) f u) Q E s:=by
 obtain⟨mA,O,r,wi,_,ho⟩:=a5w I.hok e;have hz:↥(fs.map (·.1))<=sizeLine:=by rw[aa,sizeLine_eq];ac_nf
 refine b3T I.kIn O c.sa c.po n.taker c.hd wi hz λh' O' sb=>h _ ?_;have hd:∃o,h'.get? dx=some o:=let⟨o,_,_,e',_⟩:=O'.ns;⟨o,e'⟩;refine I.write (x:=a) (e:=dx) (by rw[e];exact True.intro) (.inr ho) (λb q hb z=>(sb.2 b hb).trans z) hd ?_;refine⟨by rw[m8 O.ne];exact ho,?_,O.ne,O'.obj,_,O'.ns,λg=>?_,λg hg=>?_⟩
 · have:=a2v f y fs;ac_nf
 · show a0J ((W4 f y fs).lookup g) (if g=f then some u else mA g);rw[a2u]
   by_cases q:g=f
   · rw[az q,az q];exact ry
   · rw[aA q,aA q];exact r g
 · by_cases q:g=f
   · rw[q];exact(a2a f y fs).1
   · refine(a2a f y fs).2 g (wi g λz=>hg ?_);show(if g=f then some u else mA g)=none;rw[aA q];exact z
theorem Inv.made(I:Inv X bE σ H s):Inv X bE σ (upd (upd H s.heap.objs.size (.own (s.heap.objs.size+1))) (s.heap.objs.size+1) (.ins C s.heap.objs.size []))
 {s with heap:=(s.heap.push PySem.W.emptyDict).push (PySem.W.instObj C s.heap.objs.size)}:=by
 have e1:(s.heap.push PySem.W.emptyDict).get? s.heap.objs.size=some PySem.W.emptyDict:=Heap.get?_push_size s.heap rfl;have e2:((s.heap.push PySem.W.emptyDict).push (PySem.W.instObj C s.heap.objs.size)).get? (s.heap.objs.size+1)=some (PySem.W.instObj C s.heap.objs.size):=by
  have:=Heap.get?_push_size (s.heap.push PySem.W.emptyDict) (o:=PySem.W.instObj C s.heap.objs.size) rfl
  rwa [Heap.size_push] at this
 have e3:(s.heap.push PySem.W.emptyDict).Ns s.heap.objs.size (λ_=>none):=⟨PySem.W.emptyDict,#[],_,e1,rfl,(λe he=>absurd he ⋯),λ_=>rfl⟩;have I1:=I.laid (a:=s.heap.objs.size) (o:=.own (s.heap.objs.size+1)) (h':=s.heap.push PySem.W.emptyDict) (t':=s.toks) (λb u q=>Heap.get?_push_of_some _ q) (aj _) ⟨_,e1⟩;refine I1.laid (a:=s.heap.objs.size+1) (o:=.ins C s.heap.objs.size []) (t':=s.toks) (λb u q=>Heap.get?_push_of_some _ q) (Nat.le_of_eq (Heap.size_push _ _)) ?_;have ne:s.heap.objs.size≠s.heap.objs.size+1:=Nat.ne_of_lt (aV _);refine⟨by rw[m8 ne,i8],Nat.zero_le _,ne,e2,λ_=>none,(Heap.Ns1.of_empty e3).at λo q=>Heap.get?_push_of_some _ q,λ_=>True.intro,λy hy=>absurd rfl hy⟩
theorem b5L{f:Str}{s:Shared}(hb:attributeBase e f env (eval e env)=eval e env)
 (h:wpAny (model prog w) A (eval e env) (λo bM=>wpAny (model prog w) A (getAttr o f true) Q E bM) E s):wpAny (model prog w) A (eval (.Attribute e f pos) env) Q E s:=
 Attribute_any_ h (by rw[arm_eval_Attribute,hb])
end
noncomputable def c1M(K:PySem.W.Frag)(ta:TE)(f:Str):TE:=λσ H Q=>ta σ H λx H1=>∃a C dx fs v,x=.ref a/\H1 a=some (.ins C dx fs)/\Cls K C/\a0v K C f/\fs.lookup f=some v/\Q v H1
def c1P(K:PySem.W.Frag)(ta tv:TE)(f:Str):TS:=λD σ H=>tv σ H λy H1=>ta σ H1 λx H2=>∃a C dx fs,x=.ref a/\H2 a=some (.ins C dx fs)/\Cls K C/\a0v K C f/\↥fs<1000∧
 D.nx σ (upd H2 a (.ins C dx (W4 f y fs)))
variable{cx:Pos}
section
variable{o value:Expr}{f:Str}{eh:Pos}{ta tv:TE}
theorem b7f(he:PE X e ta)(hb:attributeBase e f X.env (eval e X.env)=eval e X.env):PE X (.Attribute e f pos) (c1M X.K ta f):=by intro bE s σ H Q I h;refine b5L hb (thn (he bE s σ H _ I h) λu s1 zz=>?_);obtain⟨x,H1,I1,rx,a,C,dx,fs,v,ex,ea,c,n,l,q⟩:=zz;subst ex;obtain rfl:u=Value.ref a:=rx;exact a7L I1 ea c n l λu' s2 I2 ru=>⟨v,H1,I2,ru,q⟩
theorem b6Q(ha:PE X o ta)(hv:PE X value tv)(hs:swapsWith value (some (.Attribute o f cW)) pos.line X.env=pure false):PS X (.Assign [.Attribute o f cW] value pos) (c1P X.K ta tv f):=by intro bE s σ H D I h;refine plainObj_wpAny_Assign_Attribute (thn (hv bE s σ H _ I h) λu s1 ⟨y,H1,I1,ry,q⟩=>thn (ha bE s1 σ H1 _ I1 q) λov s2 zz=>?_) hs;obtain⟨x,H2,I2,rx,a,C,dx,fs,ex,ea,c,n,l,q2⟩:=zz;subst ex;obtain rfl:ov=Value.ref a:=rx;exact a7u I2 ea c n l ry λs3 I3=>⟨σ,_,I3,q2⟩
end
section
variable{s:Shared}{E:Value->Shared->Prop}{c:Value}{b:Bool}
inductive TyOf(K:PySem.W.Frag)(H:Hp):V->Value->Prop where
 |non:TyOf K H .non (.type "NoneType")
 |bl (x:Bool):TyOf K H (.bl x) (.type "bool")
 |int (i:Int):TyOf K H (.int i) (.type "int")
 |str (x:Str):TyOf K H (.str x) (.type "str")
 |flt (x:UInt64):TyOf K H (.flt x) (.type "float")
 |lst {a:Addr} {xs:List V} (e:H a=some (.lst xs)):TyOf K H (.ref a) (.type "list")
 |frz {a:Addr} {o:Obj} {xs:List V} (e:H a=some (.frz o (.lst xs))):TyOf K H (.ref a) (.type "list")
 |tup {a:Addr} {xs:List V} (e:H a=some (.tup xs)):TyOf K H (.ref a) (.type "tuple")
 |dK {a:Addr} {bF:List (Key×V)} (e:H a=some (.dK bF)):TyOf K H (.ref a) (.type "dict")
 |dT {a:Addr} {bF:List (List Key×V)} (e:H a=some (.dT bF)):TyOf K H (.ref a) (.type "dict")
 |ins {a C dx:Addr} {fs:List (Str×V)} (e:H a=some (.ins C dx fs)) (cl:Cls K C) (ha:PySem.W.findIn K (.ref C) "__class__"=some (some (.builtin "object.__class__")))
  (hn:PySem.W.specialIn K (.builtin "object.__class__") "__get__"=some (some (.builtin "getset_descriptor.__get__"))) (htk:PySem.W.takesIn K (.builtin "object.__class__")=some true)
  (hm:PySem.W.mroIn K C (.type "object")=some true):TyOf K H (.ref a) (.ref C)
theorem a9P{x:V}{t:Value}(I:Inv X bE σ H s)(rx:l8 x u)(ty:TyOf X.K H x t)(e:PySem.W.kitOne X.K t c=some b)(h:∀tk,Q (.bool b) {s with toks:=tk}):
 wpAny (model X.prog X.w) A (call (.builtin "isinstance") [u,c]) Q E s:=by
 cases ty with
 |non=>cases (show u=Value.none from rx);exact PySem.W.kia_one PySem.W.kitx_none I.kIn True.intro e (λz=>nomatch z) h
 |bl y=>cases (show u=Value.bool y from rx);exact PySem.W.kia_one PySem.W.kitx_bool I.kIn True.intro e (λz=>nomatch z) h
 |int i=>obtain⟨t,q⟩:=(show∃t,u=Value.int i t from rx);cases q;exact PySem.W.kia_one PySem.W.kitx_int I.kIn True.intro e (λz=>nomatch z) h
 |str y=>obtain⟨t,q⟩:=(show∃t,u=Value.str y t from rx);cases q;exact PySem.W.kia_one PySem.W.kitx_str I.kIn True.intro e (λz=>nomatch z) h
 |flt y=>obtain⟨t,q⟩:=(show∃t,u=Value.float y t from rx);cases q;exact PySem.W.kia_one PySem.W.kitx_float I.kIn True.intro e (λz=>nomatch z) h
 | @lst a xs ea=>
  cases (show u=Value.ref a from rx);obtain⟨_,_,n,_,h1⟩:=(show D2 X.prog X.w H s.heap a (.lst xs) from I.hok a _ ea);exact PySem.W.kia_one PySem.W.kitx_list I.kIn ⟨_,h1,rfl⟩ e (λz=>nomatch z) h
 | @frz a ob xs ea=>
  cases (show u=Value.ref a from rx);obtain⟨_,_,_,n,_,h1⟩:=(show D2 X.prog X.w H s.heap a (.frz ob (.lst xs)) from I.hok a _ ea);exact PySem.W.kia_one PySem.W.kitx_list I.kIn ⟨_,h1,rfl⟩ e (λz=>nomatch z) h
 | @tup a xs ea=>
  cases (show u=Value.ref a from rx);obtain⟨_,_,_,p⟩:=(show D2 X.prog X.w H s.heap a (.tup xs) from I.hok a _ ea);obtain⟨o,h1,h2,_⟩:=p;exact PySem.W.kia_one PySem.W.kitx_tuple I.kIn ⟨o,h1,h2⟩ e (λz=>nomatch z) h
 | @dK a bF ea=>
  cases (show u=Value.ref a from rx);obtain⟨_,_,vs,_,p⟩:=(show D2 X.prog X.w H s.heap a (.dK bF) from I.hok a _ ea);obtain⟨o,es,ep,h1,h2,_⟩:=p;exact PySem.W.kia_one PySem.W.kitx_dict I.kIn ⟨o,h1,h2.1⟩ e (λz=>nomatch z) h
 | @dT a bF ea=>
  cases (show u=Value.ref a from rx);obtain⟨_,_,xs,_,o,es,ep,h1,h2,_⟩:=(show D2 X.prog X.w H s.heap a (.dT bF) from I.hok a _ ea);exact PySem.W.kia_one PySem.W.kitx_dict I.kIn ⟨o,h1,h2.1⟩ e (λz=>nomatch z) h
 | @ins a C dx fs ea cl ha hn htk hm=>
  cases (show u=Value.ref a from rx);obtain⟨mA,O,_⟩:=a5w I.hok ea;obtain⟨od,J,_⟩:=O.look;exact PySem.W.kia_one (PySem.W.kitx_own (cl.get _) cl.hd ha hn htk hm) I.kIn J e (λz=>nomatch z) h
end
structure Room(k:Nat)(A:Around):Prop where
 hd:A.handled=none
 dp:A.depth+3*k+5<recursionLimit
 un:A.units+16*k+200<cLine
theorem Room.mono{k:Nat}(r:Room k A)(h:j<=k):Room j A:=⟨r.hd,by have:=r.dp;ac_nf,by have:=r.un;ac_nf⟩
theorem Room.deeper{k:Nat}(r:Room (k+1) A)(env:Env):Room k (A.deeper env):=
 ⟨r.hd,by have:=r.dp;show A.depth+1+3*k+5<_;ac_nf,by have:=r.un;show A.units+3+16*k+200<_;ac_nf⟩
theorem a7D:(A.under (.builtin "type.__call__" ⟨.ref C::us,kw⟩)).depth=A.depth+1:=by first|rfl|simp[Around.under,Code.weight,Code.isCreation,Code.isGuard,Code.isCaller,Code.frames,Code.isFrame,guardIds]
theorem a7C:(A.under (.builtin "type.__call__" ⟨.ref C::us,kw⟩)).units=A.units+1:=by first|rfl|simp[Around.under,Code.cUnits,Code.frames,Code.isFrame]
theorem Room.make{k:Nat}(r:Room (k+1) A)(C:Addr)(us:List Value)(kw:List (Str×Value)):Room k (A.under (.builtin "type.__call__" ⟨.ref C::us,kw⟩)):=
 ⟨r.hd,by have:=r.dp;rw[a7D];ac_nf,by have:=r.un;rw[a7C];ac_nf⟩
theorem Room.depth{k:Nat}(r:Room k A):A.depth<recursionLimit:=by have:=r.dp;ac_nf
theorem Room.units{k:Nat}(r:Room k A):A.units+64<cLine:=by have:=r.un;ac_nf
def b6v:TA:=λ_ H Q=>Q [] H
noncomputable def b0x(ta:TE)(tr:TA):TA:=λσ H Q=>ta σ H λx H1=>tr σ H1 λxs H2=>Q (x::xs) H2
section
variable{t:TA}
theorem a1Y:PA X [] b6v:=λ_ _ _ _ H Q I h=>Calls.spliced_nil ⟨[],H,I,.nil,h⟩
theorem Q9(ha:PE X e te)(hr:PA X es t)(hs:starEach (e::es) X.env=(false,eval e X.env)::starEach es X.env:=by rfl):PA X (e::es) (b0x te t):=by intro pos bE s σ H Q I h;rw[hs];show wpAny _ _ (spliced ((false,eval e X.env)::backTo pos (starEach es X.env))) _ _ s;refine Calls.spliced_cons (thn (ha bE s σ H _ I h) λu s1 zz=>?_);obtain⟨x,H1,I1,r1,q1⟩:=zz;exact thn (hr pos bE s1 σ H1 _ I1 q1) λus s2 ⟨xs,H2,I2,r2,q2⟩=>⟨x::xs,H2,I2,.cons r1 r2,q2⟩
def c1D(t:TA):TE:=λσ H Q=>t σ H λxs H1=>↥xs<=sizeLine/\∀p,H1 p=none->Q (.ref p) (upd H1 p (.tup xs))
def c1I(t:TA):TE:=λσ H Q=>t σ H λxs H1=>↥xs<=sizeLine/\∀p,H1 p=none->Q (.ref p) (upd H1 p (.lst xs))
theorem b7a{x1}(h:PA X es t):PE X (.Tuple es x1 pos) (c1D t):=by intro bE s σ H Q I hq;refine wpAny_Tuple_spliced (thn (h pos bE s σ H _ I hq) λus s1 ⟨xs,H1,I1,r,z,q⟩=>⟨by rw[←r.length];exact z,?_⟩);have hf:H1 s1.heap.objs.size=none:=I1.hok.fresh (aj _);refine⟨.ref s1.heap.objs.size,upd H1 s1.heap.objs.size (.tup xs),I1.laid (t':=s1.toks) (λb u e=>Heap.get?_push_of_some _ e) (aj _) ?_,rfl,q _ hf⟩;exact⟨z,us,r,⟨_,Heap.get?_push_size _ rfl,rfl,rfl,_,rfl⟩⟩
theorem b7e(h:PA X es t):PE X (.List es pos) (c1I t):=by intro bE s σ H Q I hq;refine wpAny_List_spliced (thn (h pos bE s σ H _ I hq) λus s1 ⟨xs,H1,I1,r,z,q⟩=>⟨by rw[←r.length];exact z,?_⟩);have hf:H1 s1.heap.objs.size=none:=I1.hok.fresh (aj _);refine⟨.ref s1.heap.objs.size,upd H1 s1.heap.objs.size (.lst xs),I1.laid (t':=s1.toks) (λb u e=>Heap.get?_push_of_some _ e) (aj _) ?_,rfl,q _ hf⟩;exact⟨z,us,0,r,Heap.get?_push_size _ rfl⟩
end
abbrev Sp:=List V->Hp->VK->XK->Prop
abbrev CXT:=List Env->Hp->Shared->XK->Value->Shared->Prop
structure Env0(P:Program)(w:World)(K:PySem.W.Frag)(mg:Str->Option Value)(base:Heap)(A:Around)(outer:List Env)(s:Shared)(H:Hp):Prop where
 frames:A.frames=some outer
 mod:Mod K mg base
 bs:∀b o,base.get? b=some o->s.heap.get? b=some o/\H b=none
 bsz:base.objs.size<=s.heap.objs.size
 funs:s.heap.FunFrames base outer
 frf:∀b∈frs outer,H b=none
 hok:HOk P w H s.heap
 bare:AllBare s.gens
def CE(outer:List Env)(P:Program)(w:World)(H:Hp)(s:Shared)(Q:VK)(u:Value)(s':Shared):Prop:=
 ∃v H',s'.os=s.os/\AllBare s'.gens/\Un (frs outer) [] H H' s.heap s'.heap/\HOk P w H' s'.heap/\l8 v u/\Q v H'
def CR(CX:CXT)(outer:List Env)(P:Program)(w:World)(H:Hp)(s:Shared)(Q:VK)(E:XK)(r:Result)(s':Shared):Prop:=
 match r with
 |.ok (.ret u)=>CE outer P w H s Q u s'
 |.ok _=>False
 |.error e=>CX outer H s E e s'
structure FnOk(P:Program)(w:World)(K:PySem.W.Frag)(mg:Str->Option Value)(base:Heap)(CX:CXT)(k:Nat)(f:Addr)(fd:FuncData)(ps:List Str)(sp:Sp):Prop where
 len:∀vs H Q E,sp vs H Q E->↥vs=↥ps
 run:∀(A:Around) (outer:List Env) (s:Shared) (H:Hp) (args:Args) (us:List Value) (vs:List V) (Q:VK) (E:XK),Room k A->Env0 P w K mg base A outer s H->BindsTo s fd args (ps.zip us)->p7 vs us->sp vs H Q E→
  codeAny (model P w) A (.call (.ref f) args) (CR CX outer P w H s Q E) s
variable{mg:Str->Option Value}{base:Heap}{CX:CXT}{fd:FuncData}{ps:List Str}{sp:Sp}{outer:List Env}
theorem Env0.make{s:Shared}(e:Env0 P w K mg base A outer s H)(C:Addr)(us:List Value)(kw:List (Str×Value)):
 Env0 P w K mg base (A.under (.builtin "type.__call__" ⟨.ref C::us,kw⟩)) outer s H:=⟨by first|exact e.frames|(simpa [Around.under,Code.envs,Code.isFrame,pushEnvs] using e.frames),e.mod,e.bs,e.bsz,e.funs,e.frf,e.hok,e.bare⟩
section
variable{s:Shared}
theorem Inv.env0(I:Inv X bE σ H s):Env0 X.prog X.w X.K X.mg X.base X.A X.stack s H:=
 ⟨I.ok.frames,I.ok.mod,I.bs,aU I.ok.bsz I.sz,I.stack,I.stkFree,I.hok,I.bare⟩
theorem Inv.after{Q:VK}(I:Inv X bE σ H s)(h:CE X.stack X.prog X.w H s Q u s'):EP X bE σ Q u s':=by obtain⟨v,H',os,bare,un,hok,r,q⟩:=h;obtain⟨hh,g,d,t,os'⟩:=s';obtain rfl:os'=s.os:=os;exact⟨v,H',I.call (h':=hh) (g':=g) (d':=d) (t':=t) (ch:=[]) un hok bare (λb z=>absurd z ⋯),r,q⟩
end
noncomputable def b9h(sp:Sp)(eA:List V)(E:XK)(t:TA):TE:=λσ H Q=>t σ H λvs H1=>sp (vs++eA) H1 Q E
def b9e(C:Addr)(sp:Sp)(eA:List V)(E:XK)(t:TA):TE:=λσ H Q=>t σ H λvs H1=>∀x dx,H1 x=none->H1 dx=none->dx≠x→
 sp (.ref x::(vs++eA)) (upd (upd H1 dx (.own x)) x (.ins C dx [])) (λv H2=>v=.non/\Q (.ref x) H2) E
def U0(K:PySem.W.Frag)(fd:FuncData)(ps:List Str)(ds:List Value):Prop:=
 ∀(s:Shared) (us:List Value),K.In s.heap->↥(us++ds)=↥ps->BindsTo s fd ⟨us,[]⟩ (ps.zip (us++ds))
theorem U0.all(h:∀us:List Value,↥us=↥ps->bindArgs fd ⟨us,[]⟩=pure (ps.zip us)):U0 K fd ps []:=λs us _ hl=>by rw[bc] at hl⊢;exact .of_eq (h us hl)
def a3Z(CX:CXT)(X:Cx)(E:XK):Prop:=∀(bE:List (Addr×Obj)) (σ:St) (H:Hp) (s:Shared) (e:Value) (s':Shared),Inv X bE σ H s->CX X.stack H s E e s'->X.xe e s'
section
variable{k:Nat}{f:Addr}{eA:List V}{ds:List Value}{E:XK}{m:Str}{o:Expr}{ta:TE}{t:TA}
theorem b6F{s:Shared}{Q:VK}{vs:List V}(F:FnOk X.prog X.w X.K X.mg X.base CX k f fd ps sp)(hr:Room k X.A)(hb:U0 X.K fd ps ds)(hd:p7 eA ds)(hx:a3Z CX X E)
 (I:Inv X bE σ H s) (r:p7 vs us) (h:sp (vs++eA) H Q E):wpAny (model X.prog X.w) X.A (call (.ref f) us) (EP X bE σ Q) X.xe s:=by
 have r2:p7 (vs++eA) (us++ds):=r.append hd;have hl:↥(us++ds)=↥ps:=by rw[←r2.length];exact F.len _ _ _ _ h
 refine wpAny_call (codeAny_mono (F.run X.A X.stack s H ⟨us,[]⟩ (us++ds) (vs++eA) Q E hr I.env0 (hb s us I.kIn hl) r2 h) λr s' hq=>?_);cases r with
 |error e=>exact hx bE σ H s e s' I hq
 |ok fl=>
  cases fl with
  |ret u=>exact I.after hq
  |next=>exact False.elim hq
  |brk=>exact False.elim hq
  |cont=>exact False.elim hq
theorem b4q(F:FnOk X.prog X.w X.K X.mg X.base CX k f fd ps sp)(hr:Room k X.A)(hg:Gl X x)(hm:X.mg x= ~~~f)(hk:PySem.W.keepIn X.K (.ref f)=true)(hb:U0 X.K fd ps ds)(hd:p7 eA ds)(hx:a3Z CX X E)
 (ha:PA X (e::es) t) (hdb:(x==("__debug__":Str))=false:=by decide) (he:starEach (e::es) X.env=(false,eval e X.env)::starEach es X.env:=by rfl) (hpl:(backTo pos (starEach es X.env)).any (·.1)=false:=by rfl):
 PE X (.Call (.Name x p) (e::es) [] pos) (b9h sp eA E t):=by
 intro bE s σ H Q I h;refine wpAny_Call_Name_kw (a5p I hg hm ?_ hdb);refine PySem.W.callWith_K (h₀:=X.base) I.ok.mod.kin hk (thn (ha pos bE s σ H _ I h) λus s1 ⟨vs,H1,I1,r,q⟩=>⟨I1.kIn,?_⟩) he hpl;exact b6F F hr hb hd hx I1 r q
structure Mk(K:PySem.W.Frag)(C f:Addr):Prop where
 makes:PySem.W.makesIn K C=true
 init:PySem.W.findIn K (.ref C) "__init__"=some (~~~f)
 fn:PySem.W.isFn K (.ref f)=true
 kp:PySem.W.keepIn K (.ref C)=true
theorem b0H{s:Shared}{Q:VK}{vs:List V}(M:Mk X.K C f)(F:FnOk X.prog X.w X.K X.mg X.base CX k f fd ps sp)(hr:Room (k+1) X.A)(hb:U0 X.K fd ps ds)(hd:p7 eA ds)
 (hx:a3Z CX X E) (I:Inv X bE σ H s) (r:p7 vs us)
 (h:∀x dx,H x=none->H dx=none->dx≠x->sp (.ref x::(vs++eA)) (upd (upd H dx (.own x)) x (.ins C dx [])) (λv H2=>v=.non/\Q (.ref x) H2) E):
 wpAny (model X.prog X.w) X.A (call (.ref C) us) (EP X bE σ Q) X.xe s:=by
 have hq:=h (s.heap.objs.size+1) s.heap.objs.size (I.hok.fresh (Nat.le_succ _)) (I.hok.fresh (aj _)) (Nat.ne_of_lt (aV _));have I2:=Inv.made (C:=C) I;have r2:p7 (V.ref (s.heap.objs.size+1)::(vs++eA)) (Value.ref (s.heap.objs.size+1)::(us++ds)):=.cons rfl (r.append hd);have hl:↥(Value.ref (s.heap.objs.size+1)::us++ds)=↥ps:=by have e:=↥r2;rw[F.len _ _ _ _ hq] at e;exact e.symm
 refine wpAny_call (b1A (f:=f) I.kIn M.makes M.init (beq_iff_eq.mp M.fn) (codeAny_mono (F.run _ X.stack _ _ ⟨Value.ref (s.heap.objs.size+1)::us,[]⟩ (Value.ref (s.heap.objs.size+1)::(us++ds)) _ _ E (hr.make C us [])
  (I2.env0.make C us []) (hb _ (Value.ref (s.heap.objs.size+1)::us) I2.kIn hl) r2 hq) λr s' hq'=>?_))
 cases r with
 |error e=>exact hx bE σ _ _ e s' I2 hq'
 | ok fl=>
  cases fl with
  |ret u=>
   obtain⟨v,H',I3,rv,ev,q3⟩:=I2.after hq';subst ev;exact⟨rv,⟨V.ref (s.heap.objs.size+1),H',I3,rfl,q3⟩⟩
  |next=>exact False.elim hq'
  |brk=>exact False.elim hq'
  |cont=>exact False.elim hq'
theorem b1j(M:Mk X.K C f)(F:FnOk X.prog X.w X.K X.mg X.base CX k f fd ps sp)(hr:Room (k+1) X.A)(hg:Gl X x)(hm:X.mg x= ~~~C)(hb:U0 X.K fd ps ds)(hd:p7 eA ds)(hx:a3Z CX X E)
 (hdb:(x==("__debug__":Str))=false:=by decide):PE X (.Call (.Name x p) [] [] pos) (b9e C sp eA E b6v):=by
 intro bE s σ H Q I h;refine wpAny_Call_Name_kw (a5p I hg hm ?_ hdb);exact PySem.W.callWith_K0 I.kIn M.kp (b0H (us:=[]) M F hr hb hd hx I .nil h)
end
structure FnScope(N P:List Str)(sc:Scope):Prop where
 kind:sc.kind=.function
 co:sc.isCoroutine=false
 gen:sc.isGenerator=false
 nd:N.Nodup
 pre:N.take ↥P=P
 par:∀x∈P,sc.names.lookup x=some .local∨sc.names.lookup x=some .cell
 nofree:∀y∈sc.names,y.2≠.free
theorem a4M{kindOf:Str->Option NameKind}{x:Str}:∀{binds:List (Str×Value)} {m:Str->Option Value},(∀v,(x,v)∉binds)->bindL kindOf binds m x=m x
 |[],_,_=>rfl
 | (n,v)::r,m,h=>by
  unfold bindL;rw[a4M λw hw=>h w (aF _ hw)];split
  · have:x≠n:=by rintro rfl;exact h v ba
    simp[this]
  · rfl
theorem a4O{kindOf:Str->Option NameKind}{x:Str}:∀{binds:List (Str×Value)} {m:Str->Option Value},(∀v,(x,v)∉binds)->bindC kindOf binds m x=m x
 |[],_,_=>rfl
 | (n,v)::r,m,h=>by
  unfold bindC;rw[a4O λw hw=>h w (aF _ hw)];split
  · rfl
  · have:x≠n:=by rintro rfl;exact h v ba
    simp[this]
theorem a4N{kindOf:Str->Option NameKind}{x:Str}{v:Value}:∀{P:List Str} {vs:List Value} {i:Nat} {m:Str->Option Value},P.Nodup->P[i]? =some x->vs[i]? =some v->kindOf x=some .local→
 bindL kindOf (P.zip vs) m x=some v
 |[],_,_,_,_,h,_,_=>by simp at h
 |_::_,[],_,_,_,_,h,_=>by simp at h
 |p::P,w::vs,0,m,nd,h1,h2,hk=>by simp at h1 h2;subst h1;subst h2;show bindL kindOf ((p,w)::P.zip vs) m p=_;unfold bindL;rw[a4M λv hv=>(aX.mp nd).1 (of_mem_zip hv).1,az hk];simp
 |p::P,w::vs,i+1,m,nd,h1,h2,hk=>by show bindL kindOf ((p,w)::P.zip vs) m x=_;unfold bindL;exact a4N (i:=i) (aX.mp nd).2 (by simpa using h1) (by simpa using h2) hk
theorem a4P{kindOf:Str->Option NameKind}{x:Str}{v:Value}:∀{P:List Str} {vs:List Value} {i:Nat} {m:Str->Option Value},P.Nodup->P[i]? =some x->vs[i]? =some v->kindOf x≠some .local→
 bindC kindOf (P.zip vs) m x=some v
 |[],_,_,_,_,h,_,_=>by simp at h
 |_::_,[],_,_,_,_,h,_=>by simp at h
 |p::P,w::vs,0,m,nd,h1,h2,hk=>by simp at h1 h2;subst h1;subst h2;show bindC kindOf ((p,w)::P.zip vs) m p=_;unfold bindC;rw[a4O λv hv=>(aX.mp nd).1 (of_mem_zip hv).1,aA hk];simp
 |p::P,w::vs,i+1,m,nd,h1,h2,hk=>by show bindC kindOf ((p,w)::P.zip vs) m x=_;unfold bindC;exact a4P (i:=i) (aX.mp nd).2 (by simpa using h1) (by simpa using h2) hk
noncomputable def a1s(N:List Str)(vs:List V):St:=vs.map some++List.replicate (↥N-↥vs) none
noncomputable def a7X(CX:CXT)(P:Program)(w:World)(K:PySem.W.Frag)(mg:Str->Option Value)(base:Heap)(N:List Str)(qual:Str)(scope:Scope)(f:Addr)(cd:Value)(A:Around)(outer:List Env)(s:Shared)(H:Hp)(E:XK):Cx where
 prog:=P
 w:=w
 K:=K
 mg:=mg
 base:=base
 A:=A.deeper (envOfC qual scope s.heap.objs.size f cd)
 N:=N
 s₀:=s
 H₀:=H
 env:=envOfC qual scope s.heap.objs.size f cd
 outer:=outer
 stack:=envOfC qual scope s.heap.objs.size f cd::outer
 ex:=[]
 calm:=true
 fn:=λ_=>true
 pn:=[]
 xe:=λe s'=>wpAny (model P w) (A.deeper (envOfC qual scope s.heap.objs.size f cd)) (leaving (envOfC qual scope s.heap.objs.size f cd) e) (λ_ s''=>CX outer H s E e s'') (λe' s''=>CX outer H s E e' s'') s'
variable{sc:Scope}
theorem a7b(h:sc.names.lookup x=some .cell):∃c,(cellsFrom n sc.names []).lookup x=some c:=by have q:=PySem.W.cellsFrom_some sc.names n [] (.inl h);exact Option.isSome_iff_exists.mp q
variable{qual:Str}{scope:Scope}
theorem a9Q{f:Addr}{cd:Value}{s s1:Shared}{E:XK}{vs:List V}
 (S:FnScope N ps scope) (hd:A.handled=none) (e0:Env0 P w K mg base A outer s H) (hl:↥vs=↥ps) (r:p7 vs us)
 (x:InCallC s s.heap.objs.size (bindL (envOfC qual scope s.heap.objs.size f cd).kindOf (ps.zip us) λ_=>none) (cellsFrom (s.heap.objs.size+1) scope.names []) (bindC (envOfC qual scope s.heap.objs.size f cd).kindOf (ps.zip us) λ_=>none) s1):
 Inv (a7X CX P w K mg base N qual scope f cd A outer s H E) [] (a1s N vs) H s1:=by
 have hpl:↥ps<=↥N:=by have:=congrArg List.length S.pre;rw[aO] at this;ac_nf
 obtain⟨h1,tk,rfl,hk⟩:=x.done;have noA:∀b:Addr,b∉(a7X CX P w K mg base N qual scope f cd A outer s H E).ex:=λb z=>absurd (show b∈([]:List Addr) from z) ⋯;refine⟨⟨e0.mod,S.kind,rfl,rfl,aj _,λy z c h1 h2=>?_,λy hy=>?_,λy c _ h=>?_,λ_=>hd,Around.frames_deeper e0.frames,.inr ⟨rfl,rfl⟩,λb z=>absurd z (noA b),e0.bs,e0.bsz,λb _ _=>noA b,λb z=>absurd z (noA b),e0.funs,e0.frf⟩,
  rfl,e0.bare,Un.kept hk,⟨_,x.toInCall.ns,λi y v h1 h2 h3=>?_⟩,λy c h=>⟨_,x.cell y c h⟩,e0.hok.fresh (aj _),λy c h=>?_,λp hp=>absurd (show p∈([]:List (Addr×Obj)) from hp) ⋯,e0.hok.kept hk,?_⟩
 · exact name_of_addr x.apart (PySem.mem_of_lookup h1) (PySem.mem_of_lookup h2)
 · have hy:scope.names.lookup y=some .cell∨scope.names.lookup y=some .free:=hy;rcases hy with hy|hy
   · exact a7b hy
   · exact absurd rfl (S.nofree _ (PySem.mem_of_lookup hy))
 · exact Nat.le_of_lt (x.above y c (PySem.mem_of_lookup h))
 · have hi:i<↥vs:=by
    unfold a1s at h2
    by_cases hi:i<↥vs
    · exact hi
    · rw[av (by simpa using hi)] at h2;rw[bD] at h2;split at h2<;>cases h2
   have ha:vs[i]? =some v:=by
    unfold a1s at h2;rw[aw (by simpa using hi),ak] at h2;cases e:vs[i]? with
    |none=>rw[e] at h2;cases h2
    |some a=>rw[e] at h2;cases h2;rfl
   obtain⟨u,hu,rv⟩:=r.get ha;have hp:ps[i]? =some y:=by rw[←S.pre,bC nofun];exact h1
   have ndP:ps.Nodup:=by rw[←S.pre];exact S.nd.sublist (List.take_sublist _ _)
   refine⟨u,rv,?_⟩;rcases S.par y (aI hp) with k|k
   · exact .inl ⟨k,a4N ndP hp hu k⟩
   · obtain⟨c,e⟩:=a7b (n:=s.heap.objs.size+1) k;refine .inr ⟨.inl k,c,e,?_⟩;have q:=x.cell y c e;rw[a4P ndP hp hu (by show scope.names.lookup y≠_;rw[k];decide)] at q;exact q
 · exact e0.hok.fresh (Nat.le_of_lt (x.above y c (PySem.mem_of_lookup h)))
 · unfold a1s;show _=↥N;rw[au,aa,bn];ac_nf
variable{dh:Value}{pm:Value}{cQ:Value}{ct:Value}{oc:Value}{an:Option Addr}{od:Option Addr}{eI:Array (Option Value)}
theorem c0q{k:Nat}{f:Addr}{name:Str}{params:Arguments}{dV kV:Value}
 (lk:K.lookup f=some ⟨oc,od,.func (PySem.W.fnOf name qual params body scope dV kV dh pm an cQ ct),eI⟩) (eS:PySem.W.codeIn K cQ qual=true) (S:FnScope N ps scope)
    (len:∀vs H Q E,sp vs H Q E->↥vs=↥ps)
    (hbody:∀(A:Around) (outer:List Env) (s:Shared) (H:Hp) (vs:List V) (Q:VK) (E:XK),Room k (A.deeper (envOfC qual scope s.heap.objs.size f cQ))->sp vs H Q E→
      ∃t,PSs (a7X CX P w K mg base N qual scope f cQ A outer s H E) body t/\t {nx:=λ_ H'=>Q .non H',rt:=Q} (a1s N vs) H):
    FnOk P w K mg base CX (k+1) f (PySem.W.fnOf name qual params body scope dV kV dh pm an cQ ct) ps sp:=by
  refine⟨len,λA outer s H args us vs Q E hr e0 hb r eQ=>?_⟩;have hl:=len _ _ _ _ eQ;have KX:K.In s.heap:=e0.mod.kin.keeps λb o e=>(e0.bs b o e).1;have lim:s.heap.NoLimit:=e0.mod.nolimit.keeps λb o e=>(e0.bs b o e).1;have hkind:∀y∈ps.zip us,scope.names.lookup y.1=some .local∨(scope.names.lookup y.1=some .cell/\((cellsFrom (s.heap.objs.size+1) scope.names []).lookup y.1).isSome=true):=λ⟨n,v⟩ hy=>by
    rcases S.par n (of_mem_zip hy).1 with q|q
    · exact .inl q
    · exact .inr ⟨q,PySem.W.cellsFrom_some _ _ _ (.inl q)⟩
  refine codeAny_call_function hr.depth (KX _ _ lk) rfl S.co S.gen rfl (PySem.W.codeRec_of KX eS) (hb _ _ _ _ ?_);refine wpAny_newFunctionEnv_cells S.kind hkind λenv he s1 x=>?_;subst he;refine⟨lim.keeps x.toInCall.keep,codeAny_func ?_⟩;obtain⟨t,ht,hq⟩:=hbody A outer s H vs Q E (hr.deeper _) eQ;have I:Inv (a7X CX P w K mg base N qual scope f cQ A outer s H E) [] (a1s N vs) H s1:=a9Q S hr.hd e0 hl r x;refine wpAny_mono (ht [] s1 (a1s N vs) H _ I hq) (λfl s' hs=>?_) λe s' hs=>hs;have cM:∀{bS:St} {H':Hp} {v:V} {u:Value},Inv (a7X CX P w K mg base N qual scope f cQ A outer s H E) [] bS H' s'->l8 v u->Q v H'->CE outer P w H s Q u s':=
    fun{bS H' v u} J rv q=>⟨v,H',J.os,J.bare,J.base,J.hok,rv,q⟩
  cases fl with
  | ret u=>
    obtain⟨v,bS,H',J,rv,q⟩:=hs;exact cM J rv q
  | next=>
    obtain⟨bS,H',J,q⟩:=hs;exact cM (v:=V.non) (u:=Value.none) J rfl q
  | brk=>
    obtain⟨_,_,_,q⟩:=hs;exact False.elim q
  | cont=>
    obtain⟨_,_,_,q⟩:=hs;exact False.elim q
section
variable{t:TA}{id T:String}{r:List V->Hp->VK->Prop}
def tCB(r:List V->Hp->VK->Prop)(t:TA):TE:=λσ H Q=>t σ H λvs H1=>r vs H1 Q
theorem Z0(hc:J2 X (.builtin id) r)(hg:Gl X x)(hm:X.mg x=none)(hv:bootBuiltins x=some (.builtin id))(ha:PA X (e::es) t)(hn:x≠"__name__":=by decide)(hdb:(x==("__debug__":Str))=false:=by decide)
 (he:starEach (e::es) X.env=(false,eval e X.env)::starEach es X.env:=by rfl) (hpl:(backTo pos (starEach es X.env)).any (·.1)=false:=by rfl):PE X (.Call (.Name x p) (e::es) [] pos) (tCB r t):=by
 intro bE s σ H Q I h;refine wpAny_Call_Name_kw (a1a I hg hm hv ?_ hn hdb);exact PyProof.Rows.callWith_builtin1 (thn (ha pos bE s σ H _ I h) λus s1 ⟨vs,H1,I1,r1,q1⟩=>hc bE s1 σ H1 vs us Q I1 r1 q1) he hpl
theorem V4(hc:J2 X (.type T) r)(hg:Gl X x)(hm:X.mg x=none)(hv:bootBuiltins x=some (.type T))(ha:PA X (e::es) t)(hn:x≠"__name__":=by decide)(hdb:(x==("__debug__":Str))=false:=by decide)
 (he:starEach (e::es) X.env=(false,eval e X.env)::starEach es X.env:=by rfl) (hpl:(backTo pos (starEach es X.env)).any (·.1)=false:=by rfl):PE X (.Call (.Name x p) (e::es) [] pos) (tCB r t):=by
 intro bE s σ H Q I h;refine wpAny_Call_Name_kw (a1a I hg hm hv ?_ hn hdb);exact PyProof.Rows.callWith_type1 (thn (ha pos bE s σ H _ I h) λus s1 ⟨vs,H1,I1,r1,q1⟩=>hc bE s1 σ H1 vs us Q I1 r1 q1) he hpl
end
end L2
namespace HT
open PySem PyProof.Rows
variable{b:Addr}{items:Array Value}{Q:Value->Shared->Prop}{sl:Addr}{vl:Value}{vu:Value}{lo:Option Int}{hi:Option Int}
section
variable{prog:Program}{w:World}{A:Around}{E:Value->Shared->Prop}{s:Shared}
theorem b5D{t:Addr}{vs ws:List Value}(ht:IsTup s.heap t vs.toArray)(hb:IsTup s.heap b ws.toArray)(hv:vs≠[])
 (h1:ws=[]->Q (.ref t) s) (h2:ws≠[]->Q (.ref s.heap.objs.size) {s with heap:=s.heap.push {cls:=.type "tuple",data:=.seq (vs++ws).toArray}})
 (hsz:↥vs+↥ws<=sizeLine):wpAny (model prog w) A (binaryOp .Add (.ref t) (.ref b)) Q E s:=by
 obtain⟨⟨cls,dd,data,sl⟩,ho,hc,n,hd⟩:=id ht;obtain⟨⟨cls2,dd2,data2,sl2⟩,ho2,hc2,n2,hd2⟩:=id hb;simp only at hc hd hc2 hd2;subst hc hd hc2 hd2;have e:vs.toArray++ws.toArray=(vs++ws).toArray:=by simp
 by_cases hw:ws=[]
 · exact concat_meets ⟨_,ho,rfl⟩ ⟨_,ho2,rfl⟩ noFill_tuple_add seq_tuple_add PySem.F.slot_tuple_add PySem.F.entry_tuple_add (PySem.F.args_tuple_add_2 _ _)
    (tuple_addW1 t b vs.toArray ws.toArray n n2 dd dd2 sl sl2 (by simpa using hv) (by simp[hw])) ⟨ho,ho2,h1 hw⟩
 · refine concat_meets ⟨_,ho,rfl⟩ ⟨_,ho2,rfl⟩ noFill_tuple_add seq_tuple_add PySem.F.slot_tuple_add PySem.F.entry_tuple_add (PySem.F.args_tuple_add_2 _ _)
    (tuple_addW2 t b vs.toArray ws.toArray n n2 dd dd2 sl sl2 (by simpa using hv) (by simpa using hw) (by rw[size_toArray,size_toArray];exact hsz)) ⟨ho,ho2,?_⟩
   rw[e];exact h2 hw
noncomputable def sIx(n d:Nat):Option Int->Nat
 |none=>d
 |some v=>if v<0 then(v+(n:Int)).toNat else min v.toNat n
theorem b0G(n d:Nat):sIx n d none=d:=rfl
theorem b3W(n d k:Nat):sIx n d (some (k:Int))=min k n:=by show(if(k:Int)<0 then((k:Int)+(n:Int)).toNat else min (k:Int).toNat n)=min k n;rw[aA nofun,Int.toNat_natCast]
theorem b6E(n d:Nat)(hd:d<=n)(o:Option Int):sIx n d o<=n:=by
 cases o with
 |none=>exact hd
 |some v=>
  show(if v<0 then(v+(n:Int)).toNat else min v.toNat n)<=n
  by_cases hv:v<0
  · rw[az hv];ac_nf
  · rw[aA hv];exact Nat.min_le_right _ _
theorem a8Z(v:Int)(n d:Nat):(if v<0 then max (v+(n:Int)) 0 else min v (n:Int))=((sIx n d (some v):Nat):Int):=by
 show(if v<0 then max (v+(n:Int)) 0 else min v (n:Int))=(((if v<0 then(v+(n:Int)).toNat else min v.toNat n):Nat):Int)
 by_cases hv:v<0
 · simp only[az hv];ac_nf
 · simp only[aA hv];ac_nf
theorem a8c(lo hi:Option Int)(n:Nat):Builtin.Slice.sliceAdjust lo hi 1 (n:Int)=(((sIx n 0 lo:Nat):Int),((sIx n n hi:Nat):Int)):=by
 have h1:¬((1:Int)<0):=by ac_nf
 unfold Builtin.Slice.sliceAdjust;simp only[h1,if_false];refine Prod.ext ?_ ?_
 · cases lo with
   |none=>rfl
   |some v=>exact a8Z v n 0
 · cases hi with
   |none=>rfl
   |some v=>exact a8Z v n n
theorem a7v(i j:Nat):Builtin.Slice.slicePlaces (i:Int) (j:Int) 1=j-i:=by
 unfold Builtin.Slice.slicePlaces;have h1:(1:Int)>0:=by ac_nf
 simp only[h1,if_true,Int.ediv_one];split<;>ac_nf
theorem a3m{v:Value}{o:Option Int}{Q:Option Int->Shared->Prop}(p:IsPart v o)(h:Q o s):wpAny (model prog w) A (Builtin.Slice.slicePartIndex v) Q E s:=by
 cases p with
 |none=>exact slicePart_none h
 |int i t=>exact slicePart_int h
theorem a1V{n:Nat}{Q:Int×Int×Nat->Shared->Prop}(hs:s.heap.IsSliceOf sl vl vu .none)(pl:IsPart vl lo)(pu:IsPart vu hi)
 (h:Q (((sIx n 0 lo:Nat):Int),1,sIx n n hi-sIx n 0 lo) s):wpAny (model prog w) A (Builtin.Slice.sliceApplied (.ref sl) (pure (n:Int))) Q E s:=by
 obtain⟨os,hos,hcs,hds⟩:=id hs;unfold Builtin.Slice.sliceApplied Builtin.Slice.sliceFields;refine wpAny_bind (wpAny_bind (wpAny_field hos hds (x:=vl) rfl (wpAny_bind (wpAny_field hos hds (x:=vu) rfl (wpAny_bind (wpAny_field hos hds (x:=.none) rfl (wpAny_pure ?_)))))));refine wpAny_bind (slicePart_none ?_);show wpAny _ _ (if((1:Int)==0)=true then _ else _) _ _ s;rw[aA ∅];refine wpAny_bind (a3m pl (wpAny_bind (a3m pu (wpAny_bind (wpAny_pure ?_)))));show wpAny _ _ (match Builtin.Slice.sliceAdjust lo hi 1 (n:Int) with|(lo,hi)=>pure (lo,(1:Int),Builtin.Slice.slicePlaces lo hi 1)) _ _ s;rw[a8c lo hi n];show wpAny _ _ (pure (((sIx n 0 lo:Nat):Int),(1:Int),Builtin.Slice.slicePlaces ((sIx n 0 lo:Nat):Int) ((sIx n n hi:Nat):Int) 1)) _ _ s;rw[a7v];exact wpAny_pure h
theorem b1f(xs:Array Value)(i k:Nat):((List.range k).filterMap fun(m:Nat)=>xs[((i:Int)+(m:Int)*1).toNat]?).toArray=((xs.toList.drop i).take k).toArray:=by
 have e:(fun(m:Nat)=>xs[((i:Int)+(m:Int)*1).toNat]?)=λm=>xs[i+m]? :=by
  funext m
  have:((i:Int)+(m:Int)*1).toNat=i+m:=by ac_nf
  rw[this]
 rw[e];have:=pick_run xs i k;rw[List.filterMap_map] at this;have e2:((λx=>xs[x]?)∘λx=>i+x)=λm=>xs[i+m]? :=rfl;rw[e2] at this;rw[this]
theorem a1H{t:Addr}(ht:IsTup s.heap t items)(hs:s.heap.IsSliceOf sl vl vu .none)(pl:IsPart vl lo)(pu:IsPart vu hi)
 (hw:¬(sIx items.size 0 lo=0/\sIx items.size items.size hi=items.size))
 (h:Q (.ref s.heap.objs.size) {s with heap:=s.heap.push {cls:=.type "tuple",data:=.seq ((items.toList.drop (sIx items.size 0 lo)).take (sIx items.size items.size hi-sIx items.size 0 lo)).toArray}})
 (hsz:items.size<=sizeLine):wpAny (model prog w) A (getItem (.ref t) (.ref sl)) Q E s:=by
 have htake:sizeOk (.seq ((items.toList.drop (sIx items.size 0 lo)).take (sIx items.size items.size hi-sIx items.size 0 lo)).toArray):=by show((items.toList.drop (sIx items.size 0 lo)).take (sIx items.size items.size hi-sIx items.size 0 lo)).toArray.size<=sizeLine;rw[size_toArray,aO,bB,Array.length_toList];ac_nf
 have hj:sIx items.size items.size hi<=items.size:=b6E _ _ (aj _) hi;obtain⟨os,hos,hcs,hds⟩:=id hs;have hTs:s.TypeIs (.ref sl) "slice":=⟨os,hos,hcs⟩;unfold getItem
 try with_reducible refine wpAny_holding ?_
 first|refine wpAny_bind (wpAny_pure ?_)|skip
 refine wpAny_bind (wpAny_sequenceKey ht.typeIs ∅ ?_);refine wpAny_bind (wpAny_callSpecial?_slot (name:=Str.ofString "__getitem__") ht.typeIs PyProof.Rows.slot_tuple_getitem
  (wpAny_call_entry PyProof.Rows.slot_tuple_getitem ht.typeIs entry_tuple_getitem ?_ (args_tuple_getitem _ _)))
 show wpAny _ _ (Builtin.Tuple.tupleItemsOf (.ref t)>>=_) _ _ s;refine wpAny_bind (tupleItemsOf_ ht ?_);refine wpAny_bind (wpAny_typeOf hTs ?_);rw[az ∅];refine wpAny_bind (a1V hs pl pu ?_);have hno:¬((((sIx items.size 0 lo:Nat):Int)==0&&(1:Int)==1&&(sIx items.size items.size hi-sIx items.size 0 lo)==items.size)=true):=by intro q;rw[ae,ae] at q;have q1:((sIx items.size 0 lo:Nat):Int)=0:=eq_of_beq q.1.1;have q2:sIx items.size items.size hi-sIx items.size 0 lo=items.size:=eq_of_beq q.2;exact hw ⟨by ac_nf,by ac_nf⟩
 show wpAny _ _ (if(((sIx items.size 0 lo:Nat):Int)==0&&(1:Int)==1&&(sIx items.size items.size hi-sIx items.size 0 lo)==items.size)=true then _ else _) _ _ s;rw[aA hno,b1f]
 first
  |exact wpAny_bind (m:=Builtin.Tuple.tupleExact _) (wpAny_newObj_type (wpAny_pure ⟨_,rfl,wpAny_pure h⟩) htake)
  |exact wpAny_bind (m:=Builtin.Tuple.tupleExact _) (wpAny_newObj_type (wpAny_bind (wpAny_pure (wpAny_pure ⟨_,rfl,wpAny_pure h⟩))) htake)
  |exact wpAny_bind (wpAny_bind (m:=Builtin.Tuple.tupleExact _) (wpAny_newObj_type (wpAny_pure (wpAny_pure ⟨_,rfl,wpAny_pure h⟩)) htake))
  |exact wpAny_bind (wpAny_bind (m:=Builtin.Tuple.tupleExact _) (wpAny_newObj_type (wpAny_pure ⟨_,rfl,wpAny_pure h⟩) htake))
end
end HT
namespace L2
open PySem PySem.Spec PyProof.Rows
abbrev TO:=St->Hp->(Option Int->Hp->Prop)->Prop
def PO(X:Cx)(e:Option Expr)(t:TO):Prop:=
 ∀(bE:List (Addr×Obj)) (s:Shared) (σ:St) (H:Hp) (Q:Option Int->Hp->Prop),Inv X bE σ H s->t σ H Q→
  wpAny (model X.prog X.w) X.A (evalPart e X.env) (λu s'=>∃o H',Inv X bE σ H' s'/\IsPart u o/\Q o H') X.xe s
def b3H:TO:=λ_ H Q=>Q none H
noncomputable def b9a(t:TE):TO:=λσ H Q=>t σ H λx H1=>∃i,x=.int i/\Q (some i) H1
variable{ns:List Int}{r:V->Option Int->Option Int->Hp->VK->Prop}{us:List Value}
section
variable{X:Cx}{e:Expr}{te:TE}{lo hi:Option Expr}{tl th:TO}{pos p2:Pos}
theorem b4g:PO X none b3H:=by intro bE s σ H Q I h;rw[evalPart_none];exact wpAny_pure ⟨none,H,I,.none,h⟩
theorem b4f(h:PE X e te):PO X (some e) (b9a te):=by intro bE s σ H Q I hw;rw[evalPart_some];refine thn (h bE s σ H _ I hw) λu s1 zz=>?_;obtain⟨x,H1,I1,r1,q1⟩:=zz;obtain⟨i,rfl,q⟩:=q1;obtain⟨t,rfl⟩:=r1;exact⟨some i,H1,I1,.int i t,q⟩
def SlR(X:Cx)(r:V->Option Int->Option Int->Hp->VK->Prop):Prop:=
 ∀(bE:List (Addr×Obj)) (s:Shared) (σ:St) (H:Hp) (x:V) (v vl vu:Value) (lo hi:Option Int) (sl:Addr) (Q:VK),Inv X bE σ H s->l8 x v->s.heap.IsSliceOf sl vl vu .none->IsPart vl lo->IsPart vu hi->r x lo hi H Q→
  ∃T id,typeLookup (.type T) "__getitem__"=pure (some (.builtin id))/\s.TypeIs v T/\wpAny (model X.prog X.w) X.A (getItem v (.ref sl)) (EP X bE σ Q) X.xe s
def tSl(r:V->Option Int->Option Int->Hp->VK->Prop)(te:TE)(tl th:TO):TE:=λσ H Q=>te σ H λx H1=>tl σ H1 λl H2=>th σ H2 λu H3=>r x l u H3 Q
theorem b1i(hr:SlR X r)(he:PE X e te)(hl:PO X lo tl)(hu:PO X hi th):PE X (.Subscript e (.Slice lo hi none p2) pos) (tSl r te tl th):=by intro bE s σ H Q I h;refine Subscript_ (thn (he bE s σ H _ I h) λv s1 zz=>?_);obtain⟨x,H1,I1,r1,q1⟩:=zz;refine wpAny_Slice (thn (hl bE s1 σ H1 _ I1 q1) λvl s2 ⟨l,H2,I2,pl,q2⟩=>thn (hu bE s2 σ H2 _ I2 q2) λvu s3 zz=>?_);obtain⟨u,H3,I3,pu,q3⟩:=zz;rw[evalPart_none];refine wpAny_pure ?_;have I4:Inv X bE σ H3 {s3 with heap:=s3.heap.push {cls:=.type "slice",data:=.fields #[vl,vu,.none]}}:=I3.kept (t':=s3.toks) λb ob q=>Heap.get?_push_of_some _ q;obtain⟨T,id,hT,ht,hg⟩:=hr bE {s3 with heap:=s3.heap.push {cls:=.type "slice",data:=.fields #[vl,vu,.none]}} σ H3 x v vl vu l u s3.heap.objs.size Q I4 r1 (Heap.IsSliceOf.new ..) pl pu q3;show wpAny (model X.prog X.w) X.A (subscriptTail e (.Slice lo hi none p2) v (.ref s3.heap.objs.size)) (EP X bE σ Q) X.xe {s3 with heap:=s3.heap.push {cls:=.type "slice",data:=.fields #[vl,vu,.none]}};exact tail_any (ops:=[.ref s3.heap.objs.size,v]) ht hT hg (by with_unfolding_all rfl)
def a6W(xs:List V)(lo hi:Option Int):List V:=(xs.drop (HT.sIx ↥xs 0 lo)).take (HT.sIx ↥xs ↥xs hi-HT.sIx ↥xs 0 lo)
theorem a2A(xs:List V)(lo hi:Option Int):↥(a6W xs lo hi)<=↥xs:=by unfold a6W;rw[aO,bB];ac_nf
def c1Q(K:PySem.W.Frag):V->Option Int->Option Int->Hp->VK->Prop:=λx lo hi H Q=>∃a xs,x=.ref a/\SqT K H a xs∧
 ¬(HT.sIx ↥xs 0 lo=0/\HT.sIx ↥xs ↥xs hi=↥xs)/\∀p,H p=none->Q (.ref p) (upd H p (.tup (a6W xs lo hi)))
theorem b6A:SlR X (c1Q X.K):=by
 intro bE s σ H x v vl vu lo hi sl Q I rx hs pl pu h;obtain⟨a,xs,rfl,hx,hw,q⟩:=h;cases rx;obtain⟨bG,r,ht,hz⟩:=I.tuple hx;have bU:bG.toArray.size=↥xs:=by rw[size_toArray];exact r.length.symm
 refine⟨"tuple",_,PyProof.Rows.slot_tuple_getitem.lookup,ht.typeIs,?_⟩;refine HT.a1H ht hs pl pu (by rw[bU];exact hw) ?_ (by rw[bU];exact hz);rw[bU];refine⟨.ref s.heap.objs.size,_,I.laid (t':=s.toks) (o:=.tup (a6W xs lo hi)) (λb ob q=>Heap.get?_push_of_some _ q) (aj _) ?_,rfl,q _ (I.hok.fresh (aj _))⟩;exact⟨aU (a2A xs lo hi) hz,_,(r.drop (HT.sIx ↥xs 0 lo)).take (HT.sIx ↥xs ↥xs hi-HT.sIx ↥xs 0 lo),a0w.new _ _⟩
def b9x(K:PySem.W.Frag):R2:=λx y H Q=>∃a b xs ys,x=.ref a/\y=.ref b/\SqT K H a xs/\SqT K H b ys/\xs≠[]/\↥xs+↥ys<=sizeLine∧
 (ys=[]->Q (.ref a) H)/\(ys≠[]->∀p,H p=none->Q (.ref p) (upd H p (.tup (xs++ys))))
theorem p7.nil_iff{xs:List V}(r:p7 xs us):us=[]↔xs=[]:=by
 cases r with
 |nil=>simp
 |cons _ _=>simp
theorem b4w:OpR X (binaryOp .Add) (b9x X.K):=by intro bE s σ H x y v u Q I rx ry h;obtain⟨a,b,xs,ys,rfl,rfl,ha,hb,hx,hz,q1,q2⟩:=h;cases rx;cases ry;obtain⟨bG,r1,p1,_⟩:=I.tuple ha;obtain⟨bT,r2,p2,_⟩:=I.tuple hb;refine HT.b5D p1 p2 (λz=>hx (r1.nil_iff.mp z)) (λz=>⟨.ref a,H,I,rfl,q1 (r2.nil_iff.mp z)⟩) (λz=>?_) (by rw[←r1.length,←r2.length];exact hz);refine⟨.ref s.heap.objs.size,_,I.laid (t':=s.toks) (o:=.tup (xs++ys)) (λb ob q=>Heap.get?_push_of_some _ q) (aj _) ?_,rfl,q2 (λw=>z (r2.nil_iff.mpr w)) _ (I.hok.fresh (aj _))⟩;exact⟨by rw[au];exact hz,_,r1.append r2,a0w.new _ _⟩
end
noncomputable def ixN(n:Nat)(i:Int):Option Nat:=if 0<=i then(if i<n then some i.toNat else none) else if-(n:Int)<=i then some (i+n).toNat else none
def atI{α:Type}(xs:List α)(i:Int):Option α:=(ixN ↥xs i).bind λj=>xs[j]?
variable{n:Nat}{j:Nat}
theorem a8G{i:Int}(h:ixN n i=some j):seqIndex? i n=some j/\j<n/\ -(n:Int)<=i/\i<n:=by
 unfold ixN at h
 by_cases h0:0<=i
 · rw[az h0] at h
   by_cases h1:i<n
   · rw[az h1] at h;have e:i.toNat=j:=ay h;exact⟨by rw[seqIndex_of h0 h1,e],by ac_nf,by ac_nf,h1⟩
   · rw[aA h1] at h;cases h
 · rw[aA h0] at h
   by_cases h1: -(n:Int)<=i
   · rw[az h1] at h;have e:(i+n).toNat=j:=ay h;exact⟨by rw[seqIndex_neg nofun h1,e],by ac_nf,h1,by ac_nf⟩
   · rw[aA h1] at h;cases h
variable{α:Type}
theorem a5R{xs:List α}{i:Int}{v:α}(h:atI xs i=some v):∃j,seqIndex? i ↥xs=some j/\xs[j]? =some v/\j<↥xs/\ -(↥xs:Int)<=i/\i<↥xs:=by
 unfold atI at h;cases e:ixN ↥xs i with
 |none=>rw[e] at h;cases h
 |some j=>
  rw[e] at h;obtain⟨h1,h2,h3,h4⟩:=a8G e;exact⟨j,h1,h,h2,h3,h4⟩
def a2Y(b:Expr):Prop:=∀o i,subscripted b false o i=operate [o,i] (getItem o i)
def IxR(X:Cx)(r:R2):Prop:=
 ∀(value slice:Expr) (bE:List (Addr×Obj)) (s:Shared) (σ:St) (H:Hp) (x y:V) (v u:Value) (Q:VK),Inv X bE σ H s->l8 x v->l8 y u->r x y H Q→
  subscripted slice false v u=operate [v,u] (getItem v u)->wpAny (model X.prog X.w) X.A (subscriptTail value slice v u) (EP X bE σ Q) X.xe s
def MtR(X:Cx)(id:String)(r:V->List V->Hp->VK->Prop):Prop:=
 ∀(bE:List (Addr×Obj)) (s:Shared) (σ:St) (H:Hp) (x:V) (xs:List V) (v:Value) (us:List Value) (Q:VK),Inv X bE σ H s->l8 x v->p7 xs us->r x xs H Q→
  wpAny (model X.prog X.w) X.A (call (.builtin id) (v::us)) (EP X bE σ Q) X.xe s
variable{id:String}{bE:List (Addr×Obj)}{σ:St}{H:Hp}{bG:List Value}{its':List Value}{A:Around}{y:V}{u:Value}
section
variable{X:Cx}{a b:Expr}{ta tb:TE}{pos:Pos}
theorem b5U{r:R2}(hr:IxR X r)(ha:PE X a ta)(hb:PE X b tb)(hs:a2Y b):PE X (.Subscript a b pos) (tOp r ta tb):=by intro bE s σ H Q I h;exact Subscript_ (b8u ha hb I h λv u s2 x y H2 I2 rx ry q=>hr a b bE s2 σ H2 x y v u Q I2 rx ry q (hs _ _))
noncomputable def c1V(K:PySem.W.Frag):R2:=λx y H Q=>∃p xs i v,x=.ref p/\y=.int i/\SqL K H p xs/\atI xs i=some v/\Q v H
noncomputable def c1T(K:PySem.W.Frag):R2:=λx y H Q=>∃p xs i v,x=.ref p/\y=.int i/\SqT K H p xs/\atI xs i=some v/\Q v H
noncomputable def c1U:R2:=λx y H Q=>∃z i c,x=.str z/\y=.int i/\↥z<=sizeLine/\atI z.cps.toList i=some c/\Q (.str ⟨#[c]⟩) H
theorem a8F:IxR X (c1V X.K):=by
 intro value slice bE s σ H x y v u Q I rx ry h hs;obtain⟨p,xs,i,z,rfl,rfl,hq,he,q⟩:=h;cases rx;obtain⟨t,rfl⟩:=ry;obtain⟨bG,r,pl,hz⟩:=I.list hq;obtain⟨j,h1,h2,h3,h4,h5⟩:=a5R he;obtain⟨w,ew,dn⟩:=r.get h2;have hl:=↥r;have hn:=a0Z;have cM:EP X bE σ Q w s:=⟨z,H,I,dn,q⟩
 by_cases h0:0<=i
 · have hj:i.toNat=j:=by rw[seqIndex_of h0 h5] at h1;exact ay h1
   exact item_listR pl.isList h0 nofun (by rw[hj];simpa using ew) cM hs
 · have hj:(i+(bG.toArray.size:Int)).toNat=j:=by rw[seqIndex_neg nofun h4] at h1;rw[size_toArray,←hl];exact ay h1
   exact subscriptTail_builtinR (x:=w) pl.isList.typeIs slot_list_getitem.lookup
    (wpAny_getItem_list_neg (Q:=λr s'=>r=w/\EP X bE σ Q r s') pl.isList nofun (by rw[size_toArray]<;>ac_nf) nofun (by rw[hj];simpa using ew) ⟨rfl,cM⟩) hs
theorem ix_tup:IxR X (c1T X.K):=by
 intro value slice bE s σ H x y v u Q I rx ry h hs;obtain⟨p,xs,i,z,rfl,rfl,hq,he,q⟩:=h;cases rx;obtain⟨t,rfl⟩:=ry;obtain⟨bG,r,pl,hz⟩:=I.tuple hq;obtain⟨j,h1,h2,h3,h4,h5⟩:=a5R he;obtain⟨w,ew,dn⟩:=r.get h2;have hl:=↥r;have hn:=a0Z;have cM:EP X bE σ Q w s:=⟨z,H,I,dn,q⟩;exact subscriptTail_builtinR (x:=w) pl.typeIs slot_tuple_getitem.lookup
  (getItem_tuple (j:=j) (Q:=λr s'=>r=w/\EP X bE σ Q r s') pl nofun nofun (by rw[size_toArray,←hl];exact h1) (by simpa using ew) ⟨rfl,cM⟩) hs
theorem ix_str:IxR X c1U:=by
 intro value slice bE s σ H x y v u Q I rx ry h hs;obtain⟨z,i,c,rfl,rfl,hz,he,q⟩:=h;obtain⟨t,rfl⟩:=rx;obtain⟨t',rfl⟩:=ry;obtain⟨j,h1,h2,h3,h4,h5⟩:=a5R he;have hl:↥z.cps.toList=↥z:=by simp[Str.length]
 rw[hl] at h1 h4 h5;have hn:=a0Z;exact tail_any (typeIs_str s z t) slot_str_getitem.lookup (getItem_str (c:=c) (by have e1:decide (i< -(2^63:Int))=false:=bA nofun;have e2:decide (i≥2^63)=false:=bA nofun;rw[e1,e2,Bool.or_false]) (by rw[h1];simpa using h2) ⟨.str ⟨#[c]⟩,H,I.tok _,⟨_,rfl⟩,q⟩) hs
theorem a7B(bG:List Value)(n j:Nat)(u:Value):Obj.mapSeq (·.setIfInBounds j u) {cls:=.type "list",data:=.seq bG.toArray n}={cls:=.type "list",data:=.seq (bG.set j u).toArray n}:=by simp[Obj.mapSeq]
theorem Inv.lst{bE:List (Addr×Obj)}{σ:St}{H:Hp}{s:Shared}{p:Addr}{xs:List V}(I:Inv X bE σ H s)(h:H p=some (.lst xs)):
 ∃(bG:List Value) (n:Nat),p7 xs bG/\s.heap.get? p=some {cls:=.type "list",data:=.seq bG.toArray n}/\↥xs<=sizeLine:=by
 obtain⟨z,bG,n,r,e⟩:=I.hok p _ h;exact⟨bG,n,r,e,z⟩
theorem Inv.lstUpd{s:Shared}{p:Addr}{xs ys:List V}{n':Nat}{f:Obj->Obj}(I:Inv X bE σ H s)(h:H p=some (.lst xs))
 (ho:s.heap.get? p=some {cls:=.type "list",data:=.seq bG.toArray n}) (hf:f {cls:=.type "list",data:=.seq bG.toArray n}={cls:=.type "list",data:=.seq its'.toArray n'}) (r:p7 ys its') (hz:↥ys<=sizeLine) (t:Nat):
 Inv X bE σ (upd H p (.lst ys)) {s with heap:=s.heap.update p f,toks:=t}:=by
 have e:(s.heap.update p f).get? p=some {cls:=.type "list",data:=.seq its'.toArray n'}:=by rw[Heap.get?_update_self f ho (by rw[hf]<;>rfl),hf]
 refine I.write (x:=p) (e:=p) (by rw[h];trivial) (.inl rfl) (λb u hb q=>(Heap.get?_update_other _ _ (Ne.symm hb)).trans q) ⟨_,e⟩ ?_;exact⟨hz,its',n',r,e⟩
def b9t:V->V->V->Hp->(Hp->Prop)->Prop:=λo i v H Q=>∃p xs k j,o=.ref p/\i=.int k/\H p=some (.lst xs)/\ixN ↥xs k=some j/\Q (upd H p (.lst (xs.set j v)))
theorem b0E:b8Q X b9t:=by
 intro bE s σ H o i v ov iv u Q I ro ri rv h;obtain⟨p,xs,k,j,rfl,rfl,hp,hj,q⟩:=h;cases ro;obtain⟨t,rfl⟩:=ri;obtain⟨bG,n,r,ho,hz⟩:=I.lst hp;obtain⟨h1,h2,h3,h4⟩:=a8G hj;have hl:=↥r;have hn:=a0Z;have I':Inv X bE σ (upd H p (.lst (xs.set j v))) {s with heap:=s.heap.update p (Obj.mapSeq (·.setIfInBounds j u))}:=
  I.lstUpd hp ho (a7B bG n j u) (r.set rv j) (by rw[length_set];exact hz) s.toks
 by_cases h0:0<=k
 · have hk:k.toNat=j:=by rw[seqIndex_of h0 h4] at h1;exact ay h1
   exact PySem.W.ki_setAt ho h0 nofun (by rw[size_toArray,←hl];exact h4) (by rw[hk];exact⟨_,I',q⟩)
 · have hk:(k+(bG.toArray.size:Int)).toNat=j:=by rw[seqIndex_neg nofun h3] at h1;rw[size_toArray,←hl];exact ay h1
   exact PySem.W.ki_setBack ho nofun (by rw[size_toArray,←hl];exact h3) nofun (by rw[hk];exact⟨_,I',q⟩)
theorem a4X(lo hi:Option Int)(n:Nat):(sliceBounds lo hi none n).1=((HT.sIx n 0 lo:Nat):Int)/\(sliceBounds lo hi none n).2.1=((HT.sIx n n hi:Nat):Int)/\(sliceBounds lo hi none n).2.2=1:=by
 refine⟨?_,?_,rfl⟩
 · cases lo with
   |none=>simp[sliceBounds,HT.sIx]
   |some i=>
    simp only[sliceBounds,HT.sIx,Option.getD_none,show(1:Int)>0 by decide,if_true]
    by_cases h:i<0
    · simp only[h,if_true]<;>ac_nf
    · simp only[h,if_false]<;>ac_nf
 · cases hi with
   |none=>simp[sliceBounds,HT.sIx]
   |some i=>
    simp only[sliceBounds,HT.sIx,Option.getD_none,show(1:Int)>0 by decide,if_true]
    by_cases h:i<0
    · simp only[h,if_true]<;>ac_nf
    · simp only[h,if_false]<;>ac_nf
theorem a4d(bG:List Value)(lo hi:Option Int):slicePick bG.toArray lo hi none=((bG.drop (HT.sIx ↥bG 0 lo)).take (HT.sIx ↥bG ↥bG hi-HT.sIx ↥bG 0 lo)).toArray:=by obtain⟨h1,h2,h3⟩:=a4X lo hi bG.toArray.size;unfold slicePick;rw[h1,h2,h3];simp only[sliceRange_one,pick_run,size_toArray]<;>rfl
def c1S(K:PySem.W.Frag):V->Option Int->Option Int->Hp->VK->Prop:=λx lo hi H Q=>∃a xs,x=.ref a/\SqL K H a xs/\∀p,H p=none->Q (.ref p) (upd H p (.lst (a6W xs lo hi)))
theorem b3M:SlR X (c1S X.K):=by intro bE s σ H x v vl vu lo hi sl Q I rx hs pl pu h;obtain⟨a,xs,rfl,hx,q⟩:=h;cases rx;obtain⟨bG,r,ht,hz⟩:=I.list hx;have bU:=↥r;refine⟨"list",_,slot_list_getitem.lookup,ht.isList.typeIs,?_⟩;refine wpAny_getItem_list_slice ht.isList hs pl pu .none ⋯ ?_ (by rw[size_toArray]<;>ac_nf);rw[a4d,←bU];refine⟨.ref s.heap.objs.size,_,I.laid (t':=s.toks) (o:=.lst (a6W xs lo hi)) (λb ob q=>Heap.get?_push_of_some _ q) (aj _) ?_,rfl,q _ (I.hok.fresh (aj _))⟩;exact⟨aU (a2A xs lo hi) hz,_,0,(r.drop (HT.sIx ↥xs 0 lo)).take (HT.sIx ↥xs ↥xs hi-HT.sIx ↥xs 0 lo),Heap.get?_push_size _ rfl⟩
noncomputable def a0O:V->Bool
 |.non=>true
 |.bl _=>true
 |.int _=>true
 |.str _=>true
 |_=>false
noncomputable def eqV:V->V->Bool
 |.non,.non=>true
 |.bl a,.bl b=>a==b
 |.bl a,.int b=>(if a then 1 else 0)==b
 |.int a,.bl b=>a==(if b then 1 else 0)
 |.int a,.int b=>a==b
 |.str a,.str b=>a==b
 |_,_=>false
theorem b2Q{s:Shared}{x:V}{v:Value}(ry:l8 y u)(rx:l8 x v)(fy:a0O y=true)(fx:a0O x=true):SeqAt.EqAt A s u v (eqV y x):=by
 cases y with
 |non=>
  cases ry;cases x with
  |non=>cases rx;exact SeqAt.EqAt.same _
  |bl b=>cases rx;exact SeqAt.EqAt.none_bool b
  |int b=>obtain⟨t,rfl⟩:=rx;exact SeqAt.EqAt.none_int b t
  |str b=>obtain⟨t,rfl⟩:=rx;exact SeqAt.EqAt.none_str b t
  |_=>exact absurd (show false=true from fx) bt
 |bl a=>
  cases ry;cases x with
  |non=>cases rx;exact SeqAt.EqAt.bool_none a
  |bl b=>cases rx;exact SeqAt.EqAt.bool_bool a b
  |int b=>obtain⟨t,rfl⟩:=rx;exact SeqAt.EqAt.bool_int a b t
  |str b=>obtain⟨t,rfl⟩:=rx;exact SeqAt.EqAt.bool_str a b t
  |_=>exact absurd (show false=true from fx) bt
 |int a=>
  obtain⟨t',rfl⟩:=ry;cases x with
  |non=>cases rx;exact SeqAt.EqAt.int_none a t'
  |bl b=>cases rx;exact SeqAt.EqAt.int_bool a t' b
  |int b=>obtain⟨t,rfl⟩:=rx;exact SeqAt.EqAt.int_int a t' b t
  |str b=>obtain⟨t,rfl⟩:=rx;exact SeqAt.EqAt.int_str a t' b t
  |_=>exact absurd (show false=true from fx) bt
 |str a=>
  obtain⟨t',rfl⟩:=ry;cases x with
  |non=>cases rx;exact SeqAt.EqAt.str_none a t'
  |bl b=>cases rx;exact SeqAt.EqAt.str_bool a t' b
  |int b=>obtain⟨t,rfl⟩:=rx;exact SeqAt.EqAt.str_int a t' b t
  |str b=>obtain⟨t,rfl⟩:=rx;exact SeqAt.EqAt.str_str a t' b t
  |_=>exact absurd (show false=true from fx) bt
 |_=>exact absurd (show false=true from fy) bt
def eqU(x:V)(u:Value):Bool:=match u with
 |.none=>eqV .non x
 |.bool b=>eqV (.bl b) x
 |.int i _=>eqV (.int i) x
 |.str z _=>eqV (.str z) x
 |_=>false
theorem b2M{x:V}(r:l8 y u)(f:a0O y=true):eqU x u=eqV y x:=by
 cases y with
 |non=>cases r;rfl
 |bl b=>cases r;rfl
 |int i=>obtain⟨t,rfl⟩:=r;rfl
 |str z=>obtain⟨t,rfl⟩:=r;rfl
 |_=>exact absurd (show false=true from f) bt
theorem a1R{x:V}:∀{xs:List V} {us:List Value},p7 xs us->xs.all a0O=true->us.any (eqU x)=xs.any λy=>eqV y x
 |_,_,.nil,_=>rfl
 |y::xs,u::us,.cons r t,f=>by rw[all_cons,ae] at f;rw[any_cons,any_cons,b2M r f.1,a1R t f.2]
theorem Z4{A:Around}{s:Shared}{x:V}{v:Value}(rx:l8 x v)(fx:a0O x=true):∀{xs:List V} {us:List Value},p7 xs us->xs.all a0O=true->∀u∈us,SeqAt.EqAt A s u v (eqU x u)
 |_,_,.nil,_=>λu hu=>by cases hu
 |y::xs,u::us,.cons r t,f=>λu' hu=>by
  rw[all_cons,ae] at f;rcases aH.mp hu with rfl|hu
  · rw[b2M r f.1];exact b2Q r rx f.1 fx
  · exact Z4 rx fx t f.2 u' hu
def inV(x:V)(xs:List V):Bool:=xs.any λy=>eqV y x
def rIn(K:PySem.W.Frag)(neg:Bool):R2:=λx y H Q=>∃p xs,y=.ref p/\(SqL K H p xs∨SqT K H p xs)/\a0O x=true/\xs.all a0O=true/\Q (.bl (if neg then !inV x xs else inV x xs)) H
theorem a0A:OpR X (compareOp .In) (rIn X.K false):=by
 intro bE s σ H x y v u Q I rx ry h;obtain⟨p,xs,rfl,hq,fx,fs,q⟩:=h;cases ry;rcases hq with hq|hq
 · obtain⟨bG,r,pl,hz⟩:=I.list hq;refine SeqAt.in_listAt (eqU x) pl.isList (λw hw=>Z4 rx fx r fs w (by simpa using hw)) ⟨.bl _,H,I,rfl,?_⟩;rw[show bG.toArray.any (eqU x)=bG.any (eqU x) by simp,a1R r fs];exact q
 · obtain⟨bG,r,pl,hz⟩:=I.tuple hq;refine SeqAt.in_tupleAt (eqU x) pl (λw hw=>Z4 rx fx r fs w (by simpa using hw)) ⟨.bl _,H,I,rfl,?_⟩;rw[show bG.toArray.any (eqU x)=bG.any (eqU x) by simp,a1R r fs];exact q
theorem R3:OpR X (compareOp .NotIn) (rIn X.K true):=by
 intro bE s σ H x y v u Q I rx ry h;obtain⟨p,xs,rfl,hq,fx,fs,q⟩:=h;cases ry;rcases hq with hq|hq
 · obtain⟨bG,r,pl,hz⟩:=I.list hq;refine SeqAt.notIn_listAt (eqU x) pl.isList (λw hw=>Z4 rx fx r fs w (by simpa using hw)) ⟨.bl _,H,I,rfl,?_⟩;rw[show bG.toArray.any (eqU x)=bG.any (eqU x) by simp,a1R r fs];exact q
 · obtain⟨bG,r,pl,hz⟩:=I.tuple hq;refine SeqAt.notIn_tupleAt (eqU x) pl (λw hw=>Z4 rx fx r fs w (by simpa using hw)) ⟨.bl _,H,I,rfl,?_⟩;rw[show bG.toArray.any (eqU x)=bG.any (eqU x) by simp,a1R r fs];exact q
theorem a5h:OpR X (compareOp .NotIn) (λx y H Q=>∃i j,x=.str i/\y=.str j/\Q (.bl (!(!(Builtin.Str.occurrences j i 0 ↥j 1).isEmpty))) H):=by intro bE s σ H x y v u Q I rx ry h;obtain⟨i,j,rfl,rfl,q⟩:=h;obtain⟨t,rfl⟩:=rx;obtain⟨t',rfl⟩:=ry;exact notIn_str ⟨.bl _,H,I,rfl,q⟩
theorem a1Q:J2 X (.builtin "len") (λxs H Q=>∃p ys,xs=[.ref p]/\(SqL X.K H p ys∨SqT X.K H p ys)/\Q (.int ↥ys) H):=by
 intro bE s σ H xs us Q I r h;obtain⟨p,ys,rfl,hq,q⟩:=h;obtain⟨u,rfl,rx⟩:=V1 r;cases rx;have hn:=a0Z;rcases hq with hq|hq
 · obtain⟨bG,r',pl,hz⟩:=I.list hq;have bU:=↥r';exact Calls.call_len_list pl.isList (by simp only[size_toArray]<;>ac_nf) ⟨.int ↥ys,H,I.tok _,⟨s.toks+1,by rw[size_toArray,bU]⟩,q⟩
 · obtain⟨bG,r',pl,hz⟩:=I.tuple hq;have bU:=↥r';exact len_tuple pl (by simp only[size_toArray]<;>ac_nf) ⟨.int ↥ys,H,I.tok _,⟨s.toks+1,by rw[size_toArray,bU]⟩,q⟩
theorem a5O:J2 X (.builtin "len") (λxs H Q=>∃z,xs=[.str z]/\↥z<=sizeLine/\Q (.int ↥z) H):=by intro bE s σ H xs us Q I r h;obtain⟨z,rfl,hz,q⟩:=h;obtain⟨u,rfl,t,rfl⟩:=V1 r;have hn:=a0Z;exact len_str nofun ⟨.int ↥z,H,I.tok _,⟨_,rfl⟩,q⟩
theorem a1P:J2 X (.type "list") (λxs H Q=>∃p ys,xs=[.ref p]/\(SqL X.K H p ys∨SqT X.K H p ys)/\∀l,H l=none->Q (.ref l) (upd H l (.lst ys))):=by
 intro bE s σ H xs us Q I r h;obtain⟨p,ys,rfl,hq,q⟩:=h;obtain⟨u,rfl,rx⟩:=V1 r;cases rx;have cM:∀(bG:List Value),p7 ys bG->↥ys<=sizeLine->∀(h':Heap) (c':Nat),(∀b o',s.heap.get? b=some o'->h'.get? b=some o')→
  h'.get? s.heap.objs.size=some {cls:=.type "list",dict:=none,data:=.seq bG.toArray c',slots:= #[]}->EP X bE σ Q (.ref s.heap.objs.size) {s with heap:=h'}:=λbG r' hz h' c' kp e=>
  ⟨.ref s.heap.objs.size,_,I.laid (t':=s.toks) kp (aj _) (show D2 X.prog X.w _ h' _ (.lst ys) from⟨hz,bG,c',r',e⟩),rfl,q _ (I.hok.fresh (aj _))⟩
 rcases hq with hq|hq
 · obtain⟨bG,r',pl,hz⟩:=I.list hq;have bU:=↥r';obtain⟨o,ho,hc,n,hd⟩:=pl.isList;exact call_list_seq p (.inl rfl) ho hc hd (λh' c' kp e=>cM bG r' hz h' c' kp e) (by simp only[size_toArray]<;>ac_nf)
 · obtain⟨bG,r',pl,hz⟩:=I.tuple hq;have bU:=↥r';obtain⟨o,ho,hc,n,hd⟩:=pl;exact call_list_seq p (.inr rfl) ho hc hd (λh' c' kp e=>cM bG r' hz h' c' kp e) (by simp only[size_toArray]<;>ac_nf)
theorem a0R:J2 X (.type "tuple") (λxs H Q=>∃p ys,xs=[.ref p]/\((SqL X.K H p ys/\∀l,H l=none->Q (.ref l) (upd H l (.tup ys)))∨(SqT X.K H p ys/\Q (.ref p) H))):=by
 intro bE s σ H xs us Q I r h;obtain⟨p,ys,rfl,h⟩:=h;obtain⟨u,rfl,rx⟩:=V1 r;cases rx;rcases h with⟨hq,q⟩|⟨hq,q⟩
 · obtain⟨bG,r',pl,hz⟩:=I.list hq;have bU:=↥r';refine call_tuple_list pl.isList (λh' kp=>?_) (by simp only[size_toArray]<;>ac_nf);have I1:Inv X bE σ H {s with heap:=h'}:=I.kept (t':=s.toks) kp;have I2:Inv X bE σ (upd H h'.objs.size (.tup ys)) {s with heap:=h'.push {cls:=.type "tuple",data:=.seq bG.toArray}}:=
    I1.laid (t':=s.toks) (λb o e=>Heap.get?_push_of_some _ e) (aj _) (show D2 X.prog X.w _ _ _ (.tup ys) from⟨hz,bG,r',a0w.new _ _⟩)
   exact⟨.ref h'.objs.size,_,I2,rfl,q _ (I1.hok.fresh (aj _))⟩
 · obtain⟨bG,r',pl,hz⟩:=I.tuple hq;exact call_tuple_same pl ⟨.ref p,H,I,rfl,q⟩
def tyV(K:PySem.W.Frag)(T:String)(x:V)(H:Hp):Prop:=match x with
 |.str _=>T="str"
 |.int _=>T="int"
 |.ref p=>(T="list"/\∃xs,SqL K H p xs)∨(T="tuple"/\∃o,K.lookup p=some o/\o.cls=.type "tuple"/\o.dict=none)∨
  (T="dict"/\((∃bF,H p=some (.dK bF))∨∃bF,H p=some (.dT bF)))∨(T="set"/\∃S n,H p=some (.set S n))
 |_=>False
theorem b6m{s:Shared}{T:String}{x:V}{v:Value}(I:Inv X bE σ H s)(r:l8 x v)(ty:tyV X.K T x H):
 s.TypeIs v T/\∀a,v=.ref a->∃ob,s.heap.get? a=some ob/\ob.dict=none:=by
 cases x with
 |str z=>
  obtain⟨t,rfl⟩:=r;cases (show T="str" from ty);exact⟨typeIs_str s z t,λ_ e=>nomatch e⟩
 |int i=>
  obtain⟨t,rfl⟩:=r;cases (show T="int" from ty);exact⟨typeIs_int s i t,λ_ e=>nomatch e⟩
 |ref p=>
  cases r;rcases ty with⟨rfl,xs,hq⟩|⟨rfl,o,hk,hc,hd⟩|⟨rfl,hk⟩|⟨rfl,S,n,hk⟩
  · obtain⟨bG,_,pl,_⟩:=I.list hq;refine⟨pl.isList.typeIs,λa e=>?_⟩;cases e;obtain⟨o,n,e,c,hd,_⟩:=pl;exact⟨o,e,hd⟩
  · refine⟨⟨o,I.kIn p o hk,hc⟩,λa e=>?_⟩;cases e;exact⟨o,I.kIn _ o hk,hd⟩
  · have z:∃o,s.heap.get? p=some o/\o.ExactDict:=by
     rcases hk with⟨bF,hk⟩|⟨bF,hk⟩
     · obtain⟨_,_,_,_,o,_,_,e,ex,_⟩:=I.hok p _ hk;exact⟨o,e,ex⟩
     · obtain⟨_,_,_,_,o,_,_,e,ex,_⟩:=I.hok p _ hk;exact⟨o,e,ex⟩
    obtain⟨o,e,ex⟩:=z;refine⟨⟨o,e,ex.1⟩,λa e2=>?_⟩;cases e2;exact⟨o,e,ex.2.1⟩
  · obtain⟨o,_,_,_,e,ex,_⟩:=I.hok p _ hk;refine⟨⟨o,e,ex.1⟩,λa e2=>?_⟩;cases e2;exact⟨o,e,ex.2.1⟩
 |_=>exact False.elim ty
def tBM(K:PySem.W.Frag)(T:String)(r:V->List V->Hp->VK->Prop)(to:TE)(t:TA):TE:=λσ H Q=>to σ H λx H1=>tyV K T x H1/\t σ H1 λxs H2=>r x xs H2 Q
variable{o e:Expr}{es:List Expr}{to:TE}{t:TA}{name:Str}{cx cb:Pos}{T:String}{r:V->List V->Hp->VK->Prop}
theorem a6s(pa:PlainAttrs T)(slot:Slot T name id)(hty:typeOf (.builtin id)=pure (.type "method_descriptor"))(hm:MtR X id r)(ho:PE X o to)(ha:PA X (e::es) t)
 (dy:attributeBase o name X.env (eval o X.env)=eval o X.env:=by rfl)
 (eu:((backTo cb (starEach (e::es) X.env)).all (λx=>!x.1)&&(backToKw cb (keywordEach [] X.env)).all (λx=>x.1.isSome)
  &&decide (↥(e::es)+↥([]:List Keyword)+(if([]:List Keyword).isEmpty then 0 else 1)<30))=true:=by rfl)
 (cX:(cx.endLine==cb.line)=true:=by rfl) (hs:starEach (e::es) X.env=(false,eval e X.env)::starEach es X.env:=by rfl) (hplain:(backTo cb (starEach es X.env)).any (·.1)=false:=by rfl):
 PE X (.Call (.Attribute o name cx) (e::es) [] cb) (tBM X.K T r to t):=by
 intro bE s σ H Q I h;refine wpAny_Call_method_late dy eu cX rfl (thn (ho bE s σ H _ I h) λv s1 zz=>?_);obtain⟨x,H1,I1,r1,ty,q1⟩:=zz;obtain⟨h1,h2⟩:=b6m I1 r1 ty;refine⟨T,id,pa,slot,hty,h1,h2,?_⟩;have hA:=ha cb bE s1 σ H1 _ I1 q1;rw[hs] at hA⊢;refine Calls.callWith_builtin (by show(false||(backTo cb (starEach es X.env)).any (·.1))=false;rw[hplain]<;>rfl) (Calls.evalArgs_plain ?_);exact thn hA λus s2 ⟨vs,H2,I2,r2,q2⟩=>hm bE s2 σ H2 x vs v us Q I2 r1 r2 q2
end
def MtM(X:Cx)(id:String)(r:V->List V->Hp->VK->Prop):Prop:=
 ∀(bE:List (Addr×Obj)) (s:Shared) (σ:St) (H:Hp) (x:V) (xs:List V) (v:Value) (us:List Value) (Q:VK),Inv X bE σ H s->l8 x v->p7 xs us->r x xs H Q→
  wpAny (model X.prog X.w) X.A (call (.builtin id) (v::us)) (EP X bE σ Q) X.xe s
theorem p7.one{x:V}(h:p7 [x] us):∃u,us=[u]/\l8 x u:=by obtain- |⟨r,q⟩:=h;cases q;exact⟨_,rfl,r⟩
section
variable{X:Cx}{s:Shared}{l b:Addr}{xs ys zs:List V}
theorem Inv.lset{f:Array Value->Array Value}{t':Nat}(I:Inv X bE σ H s)(hH:H l=some (.lst xs))
 (e:s.heap.get? l=some {cls:=.type "list",data:=.seq bG.toArray n}) (hf:f bG.toArray=its'.toArray) (hv:p7 ys its') (hz:↥ys<=sizeLine):
 Inv X bE σ (upd H l (.lst ys)) {s with heap:=s.heap.update l (Obj.mapSeq f),toks:=t'}:=by
 have q:=PySem.IsL.update e f;rw[hf] at q;refine I.write (x:=l) (e:=l) (by rw[hH];exact trivial) (.inl rfl) (λb' u hb hu=>(Heap.get?_update_other s.heap (Obj.mapSeq f) (Ne.symm hb)).trans hu) ⟨_,q⟩ ?_;exact⟨hz,its',_,hv,q⟩
theorem Inv.lnew{t':Nat}(I:Inv X bE σ H s)(hv:p7 ys bG)(hz:↥ys<=sizeLine):
 Inv X bE σ (upd H s.heap.objs.size (.lst ys)) {s with heap:=s.heap.push {cls:=.type "list",data:=.seq bG.toArray},toks:=t'}:=
 I.laid (λ_ _ q=>Heap.get?_push_of_some _ q) (aj _) ⟨hz,bG,0,hv,Heap.get?_push_size _ rfl⟩
theorem Inv.fresh(I:Inv X bE σ H s):H s.heap.objs.size=none:=I.hok.fresh (aj _)
theorem Inv.lstM(I:Inv X bE σ H s)(hH:H l=some (.lst xs)):↥xs<=sizeLine/\∃(bG:List Value) (n:Nat),p7 xs bG/\↥xs=↥bG/\s.heap.get? l=some {cls:=.type "list",data:=.seq bG.toArray n}:=by obtain⟨z,bG,n,r,e⟩:=I.hok l _ hH;exact⟨z,bG,n,r,↥r,e⟩
theorem b1v(h:n<=sizeLine):Builtin.List.listTooLong n=false:=by unfold Builtin.List.listTooLong;exact bA nofun
end
section
variable{X:Cx}
def b3Z:V->List V->Hp->VK->Prop:=λx vs H Q=>∃l xs y,x=.ref l/\vs=[y]/\H l=some (.lst xs)/\↥xs<sizeLine/\Q .non (upd H l (.lst (xs++[y])))
theorem a4w:MtM X "list.append" b3Z:=by intro bE s σ H x vs v us Q I rx rv h;obtain⟨l,xs,y,rfl,rfl,hH,hz,q⟩:=h;cases rx;obtain⟨u,rfl,ru⟩:=rv.one;obtain⟨z,bG,n,r,hl,e⟩:=I.lstM hH;refine call_meets F.slot_list_append ⟨_,e,rfl⟩ F.entry_list_append (F.args_list_append_2 _ _) (PySem.list_append l bG.toArray n u (by rw[size_toArray];ac_nf)) ⟨e,?_⟩;refine⟨.non,_,I.lset (its':=bG++[u]) hH e ⋯ (r.append (.cons ru .nil)) ?_,rfl,q⟩;rw[au,length_singleton];ac_nf
def b3Y:V->List V->Hp->VK->Prop:=λx vs H Q=>∃l b xs zs,x=.ref l/\vs=[.ref b]/\H l=some (.lst xs)/\H b=some (.lst zs)/\↥xs+↥zs<=sizeLine/\Q .non (upd H l (.lst (xs++zs)))
theorem a9I:MtM X "list.extend" b3Y:=by
 intro bE s σ H x vs v us Q I rx rv h;obtain⟨l,b,xs,zs,rfl,rfl,hH,hB,hz,q⟩:=h;cases rx;obtain⟨u,rfl,ru⟩:=rv.one;cases ru;obtain⟨z,bG,n,r,hl,e⟩:=I.lstM hH;obtain⟨z2,bT,n2,r2,eW,e2⟩:=I.lstM hB;have hsz:bG.toArray.size+bT.toArray.size<=sizeLine:=by rw[size_toArray,size_toArray];ac_nf
 have hlong:¬(!bG.toArray.isEmpty&&Builtin.List.listTooLong (bG.toArray.size+bT.toArray.size))=true:=by rw[b1v hsz,Bool.and_false];exact bt
 refine call_meets F.slot_list_extend ⟨_,e,rfl⟩ F.entry_list_extend (F.args_list_extend_2 _ _)
  (AutoSeq1.list_extend_list_list_0 l bG.toArray n b bT.toArray n2 hlong (by rw[size_toArray];ac_nf) nofun) ⟨e,e2,?_⟩
 refine⟨.non,_,I.lset (its':=bG++bT) hH e ⋯ (r.append r2) ?_,rfl,q⟩;rw[au];ac_nf
def c1X:R2:=λx y H Q=>∃l b xs zs,x=.ref l/\y=.ref b/\H l=some (.lst xs)/\H b=some (.lst zs)/\↥xs+↥zs<=sizeLine/\∀p,H p=none->Q (.ref p) (upd H p (.lst (xs++zs)))
theorem b7p:OpR X (binaryOp .Add) c1X:=by
 intro bE s σ H x y v u Q I rx ry h;obtain⟨l,b,xs,zs,rfl,rfl,hH,hB,hz,q⟩:=h;cases rx;cases ry;obtain⟨z,bG,n,r,hl,e⟩:=I.lstM hH;obtain⟨z2,bT,n2,r2,eW,e2⟩:=I.lstM hB;refine PySem.P.add_list e e2 ?_ (by rw[size_toArray,size_toArray];ac_nf);have ea:bG.toArray++bT.toArray=(bG++bT).toArray:=by simp
 rw[ea];exact⟨.ref _,_,I.lnew (t':=s.toks) (r.append r2) (by rw[au];ac_nf),rfl,q _ I.fresh⟩
end
variable{b:Addr}{sl:Addr}{items:Array Value}{vl:Value}{vu:Value}
section
variable{κ:Type}[DecidableEq κ]
noncomputable def V2(bF:List (κ×V))(k:κ):Option V:=(bF.find? λkv=>decide (kv.1=k)).map (·.2)
noncomputable def Q1(bF:List (κ×V))(k:κ)(v:V):List (κ×V):=
 if(bF.any λkv=>decide (kv.1=k))=true then bF.map (λkv=>if kv.1=k then(kv.1,v) else kv) else bF++[(k,v)]
theorem Y6{p:κ×V}{r:List (κ×V)}{k:κ}(e:p.1=k):V2 (p::r) k=some p.2:=by simp[V2,List.find?_cons,e]
theorem Y7{p:κ×V}{r:List (κ×V)}{k:κ}(e:¬p.1=k):V2 (p::r) k=V2 r k:=by simp[V2,List.find?_cons,e]
theorem a5Y(k:κ):∀bF:List (κ×V),(bF.any λkv=>decide (kv.1=k))=(V2 bF k).isSome
 |[]=>rfl
 |p::r=>by
  rw[any_cons]
  by_cases e:p.1=k
  · simp only[Y6 e,bf e,Bool.true_or,Option.isSome_some]
  · rw[Y7 e,bA e,Bool.false_or];exact a5Y k r
theorem Z5(bF:List (κ×V))(k:κ)(v:V):↥(Q1 bF k v)<=↥bF+1:=by
 unfold Q1;split
 · rw[aa];ac_nf
 · rw[au,length_cons,length_nil];ac_nf
theorem a0J.isSome_eq{o:Option V}{u:Option Value}(r:a0J o u):o.isSome=u.isSome:=by
 cases o with
 |none=>cases u with
  |none=>rfl
  |some _=>exact(show False from r).elim
 |some _=>cases u with
  |none=>exact(show False from r).elim
  |some _=>rfl
theorem a0J.getD{o:Option V}{u:Option Value}{d:V}{d':Value}(r:a0J o u)(rd:l8 d d'):l8 (o.getD d) (u.getD d'):=by
 cases o with
 |none=>cases u with
  |none=>exact rd
  |some _=>exact(show False from r).elim
 |some _=>cases u with
  |none=>exact(show False from r).elim
  |some _=>exact r
theorem KV.val{bF:List (κ×V)}{vs:List (κ×Value)}(r:KV bF vs)(k:κ):a0J (V2 bF k) (valueAt vs k):=by
 unfold KV at r
 induction r with
 |nil=>exact True.intro
 | @cons p q ps qs h t ih=>
  obtain⟨h1,h2⟩:=h
  by_cases e:p.1=k
  · have e':q.1=k:=h1.symm.trans e;have b:valueAt (q::qs) k=some q.2:=by simp[valueAt,List.find?_cons,e']
    rw[Y6 e,b];exact h2
  · have e':¬q.1=k:=λz=>e (h1.trans z);have b:valueAt (q::qs) k=valueAt qs k:=by simp[valueAt,List.find?_cons,e']
    rw[Y7 e,b];exact ih
theorem KV.any{bF:List (κ×V)}{vs:List (κ×Value)}(r:KV bF vs)(k:κ):(bF.any λkv=>decide (kv.1=k))=vs.any λkv=>decide (kv.1=k):=by
 unfold KV at r
 induction r with
 |nil=>rfl
 |cons h t ih=>rw[any_cons,any_cons,ih,h.1]
theorem KV.repl{bF:List (κ×V)}{vs:List (κ×Value)}(r:KV bF vs)(k:κ)(ry:l8 y u):
 KV (bF.map λkv=>if kv.1=k then(kv.1,y) else kv) (vs.map λkv=>if kv.1=k then(kv.1,u) else kv):=by
 unfold KV at r⊢
 induction r with
 |nil=>exact .nil
 | @cons p q ps qs h t ih=>
  rw[map_cons,map_cons];refine .cons ?_ ih;obtain⟨h1,h2⟩:=h
  by_cases e:p.1=k
  · rw[az e,az (h1.symm.trans e)];exact⟨h1,ry⟩
  · rw[aA e,aA (λz=>e (h1.trans z))];exact⟨h1,h2⟩
theorem KV.put{bF:List (κ×V)}{vs:List (κ×Value)}(r:KV bF vs)(k:κ)(ry:l8 y u):KV (Q1 bF k y) (stored vs k u):=by
 unfold Q1 stored;rw[r.any k]
 by_cases e:(vs.any λkv=>decide (kv.1=k))=true
 · rw[az e,az e];exact r.repl k ry
 · rw[aA e,aA e];exact Paired.snoc r ⟨rfl,ry⟩
theorem KV.length{bF:List (κ×V)}{vs:List (κ×Value)}(r:KV bF vs):↥bF=↥vs:=Paired.length r
end
variable{P:Program}{w:World}
theorem a0a{k:Key}(r:l8 (kV k) u):(z9 P w).is k u=true:=by
 cases k with
 |inl i=>obtain⟨t,e⟩:=(show∃t,u=Value.int i t from r);subst e;exact a6y P w i t
 |inr x=>obtain⟨t,e⟩:=(show∃t,u=Value.str x t from r);subst e;exact a6x P w x t
theorem a4z{P:Program}{w:World}:∀{ks:List Key} {us:List Value},p7 (ks.map kV) us->ItemsAre (z9 P w) ks us
 |[],_,r=>by rw[map_nil] at r;cases r;exact .nil
 |k::ks,_,r=>by
  rw[map_cons] at r;cases r with
  |cons h t=>exact .cons (a0a h) (a4z t)
abbrev KT(H:Hp):List (List Key×V)->List (List Key×Addr×Value)->Prop:=Paired λp q=>p.1=q.1/\H q.2.1=some (.tup (p.1.map kV))/\l8 p.2 q.2.2
variable{bF:List (List Key×V)}{xs:List (List Key×Addr×Value)}
theorem KT.val(r:KT H bF xs)(k:List Key):a0J (V2 bF k) ((atKey xs k).map (·.2)):=by
 induction r with
 |nil=>exact True.intro
 | @cons p q ps qs h t ih=>
  obtain⟨h1,_,h2⟩:=h
  by_cases e:p.1=k
  · have e':q.1=k:=h1.symm.trans e;have b:atKey (q::qs) k=some q.2:=by simp[atKey,List.find?_cons,e']
    rw[Y6 e,b];exact h2
  · have e':¬q.1=k:=λz=>e (h1.trans z);have b:atKey (q::qs) k=atKey qs k:=by simp[atKey,List.find?_cons,e']
    rw[Y7 e,b];exact ih
theorem KT.repl(r:KT H bF xs)(k:List Key)(ry:l8 y u):
 KT H (bF.map λkv=>if kv.1=k then(kv.1,y) else kv) (xs.map (putAt k u)):=by
 induction r with
 |nil=>exact .nil
 | @cons p q ps qs h t ih=>
  rw[map_cons,map_cons];refine .cons ?_ ih;obtain⟨h1,h2,h3⟩:=h;unfold putAt
  by_cases e:p.1=k
  · rw[az e,az (h1.symm.trans e)];exact⟨h1,h2,ry⟩
  · rw[aA e,aA (λz=>e (h1.trans z))];exact⟨h1,h2,h3⟩
theorem KT.put(r:KT H bF xs)(k:List Key)(hb:H b=some (.tup (k.map kV)))(ry:l8 y u):
 KT H (Q1 bF k y) (storedH xs k b u):=by
 have e:(bF.any λkv=>decide (kv.1=k))=(atKey xs k).isSome:=by rw[a5Y,(r.val k).isSome_eq,Option.isSome_map]
 unfold Q1 storedH;rw[e]
 by_cases q:(atKey xs k).isSome=true
 · rw[az q,az q];exact r.repl k ry
 · rw[aA q,aA q];exact Paired.snoc r ⟨rfl,hb,ry⟩
variable{H':Hp}
theorem KT.keeps(r:KT H bF xs)(ht:∀b ys,H b=some (.tup ys)->H' b=some (.tup ys)):KT H' bF xs:=
 Paired.mapP r λ_ _ z=>⟨z.1,ht _ _ z.2.1,z.2.2⟩
section
variable{h:Heap}{a:Addr}
theorem rd_of{u:HO}(ok:HOk P w H h)(e:Rd H a u):D2 P w H h a u:=e.ok ok
theorem a2z{bF:List (Key×V)}(ok:HOk P w H h)(e:Rd H a (.dK bF)):↥bF<=sizeLine/\(a==sysModules)=false/\∃vs,KV bF vs/\h.DictOf (z9 P w) a vs:=
 show D2 P w H h a (.dK bF) from rd_of ok e
theorem b6f{bF:List (Key×V)}(ok:HOk P w H h)(e:H a=some (.dK bF)):↥bF<=sizeLine/\(a==sysModules)=false/\∃vs,KV bF vs/\h.DictOf (z9 P w) a vs:=a2z ok (.inl e)
theorem a2c{ks:List Key}(ok:HOk P w H h)(e:H a=some (.tup (ks.map kV))):(tupleKind (z9 P w)).is h ks a:=by obtain⟨_,bG,r,o,h1,h2,_,n,h3⟩:=(show D2 P w H h a (.tup (ks.map kV)) from ok a _ e);exact⟨o,bG.toArray,n,h1,h2,h3,by simpa using a4z r⟩
theorem a3N(ok:HOk P w H h)(e:Rd H a (.dT bF)):↥bF<=sizeLine/\(a==sysModules)=false∧
 ∃xs,KT H bF xs/\h.DictOfH (tupleKind (z9 P w)) a xs:=by
 obtain⟨z,y,xs,r,o,es,ep,h1,h2,h3,h4,h5⟩:=(show D2 P w H h a (.dT bF) from rd_of ok e);refine⟨z,y,xs,r,o,es,ep,h1,h2,h3,h4,λx hx=>?_,h5⟩;have all:∀{l:List (List Key×V)} {m:List (List Key×Addr×Value)},KT H l m->∀x∈m,(tupleKind (z9 P w)).is h x.1 x.2.1:=by
  intro l m q
  induction q with
  |nil=>intro x hx;exact nomatch hx
  | @cons p q ps qs hq t ih=>
   intro x hx;rcases aH.mp hx with e|hx
   · subst e;exact a2c ok (by rw[←hq.1];exact hq.2.1)
   · exact ih x hx
 exact all r x hx
theorem c0M(ok:HOk P w H h)(e:H a=some (.dT bF)):↥bF<=sizeLine/\(a==sysModules)=false∧
 ∃xs,KT H bF xs/\h.DictOfH (tupleKind (z9 P w)) a xs:=a3N ok (.inl e)
end
def a8e(H:Hp)(a:Addr)(y:V)(r:Option V):Prop:=
 (∃bF k,Rd H a (.dK bF)/\y=kV k/\r=V2 bF k)∨∃bF k b,Rd H a (.dT bF)/\y=.ref b/\H b=some (.tup (k.map kV))/\r=V2 bF k
def c2H(H:Hp)(a:Addr)(y v:V)(H':Hp):Prop:=
 (∃bF k,H a=some (.dK bF)/\y=kV k/\↥bF<sizeLine/\H'=upd H a (.dK (Q1 bF k v)))∨
 ∃bF k b,H a=some (.dT bF)/\y=.ref b/\H b=some (.tup (k.map kV))/\↥bF<sizeLine/\H'=upd H a (.dT (Q1 bF k v))
variable{a:Addr}{v:V}{Q:Value->Shared->Prop}{h':Heap}
section
variable{X:Cx}{s:Shared}{r:Value}{o:Option V}{E:Value->Shared->Prop}
theorem Inv.big(I:Inv X bE σ H s):sysModules<s.heap.objs.size:=by have h:mainGlobals<s.heap.objs.size:=(I.mod.glob.keeps I.bk).lt;exact Nat.lt_trans ∅ h
theorem b0b(hu:A.units+1<cLine)(I:Inv X bE σ H s)(g:a8e H a y (some v))(ry:l8 y u)(h:∀w' s',Inv X bE σ H s'->l8 v w'->Q w' s'):
 wpAny (model X.prog X.w) A (getItem (.ref a) u) Q E s:=by
 rcases g with⟨bF,k,e,ey,l⟩|⟨bF,k,b,e,ey,eb,l⟩
 · subst ey;obtain⟨z,hd,vs,cy,dd⟩:=a2z I.hok e;obtain⟨w',hw,dn⟩:=a0J.some_of (v:=v) (o:=valueAt vs k) (by rw[l];exact cy.val k);exact wpAny_getItem_of (a0a ry) dd.mapOf hw (h w' _ (I.tok _) dn)
 · subst ey;cases (show u=Value.ref b from ry);obtain⟨z,hd,xs,cy,dd⟩:=a3N I.hok e;obtain⟨w',hw,dn⟩:=a0J.some_of (v:=v) (o:=(atKey xs k).map (·.2)) (by rw[l];exact cy.val k);obtain⟨p,hp,hp2⟩:=Option.map_eq_some_iff.mp hw;refine wpAny_getItem_heap (tupleKind_room_in1 hu) (a2c I.hok eb) dd hp ?_;rw[hp2];exact h w' _ (I.tok _) dn
theorem c2q(hu:A.units+1<cLine)(I:Inv X bE σ H s)(g:a8e H a y o)(ry:l8 y u)(h:∀s',Inv X bE σ H s'->Q (.bool o.isSome) s'):
 wpAny (model X.prog X.w) A (compareOp .In u (.ref a)) Q E s:=by
 rcases g with⟨bF,k,e,ey,l⟩|⟨bF,k,b,e,ey,eb,l⟩
 · subst ey;obtain⟨z,hd,vs,cy,dd⟩:=a2z I.hok e;refine wpAny_in_of (a0a ry) hd dd.mapOf ?_;rw[←(cy.val k).isSome_eq,←l];exact h _ (I.tok _)
 · subst ey;cases (show u=Value.ref b from ry);obtain⟨z,hd,xs,cy,dd⟩:=a3N I.hok e;refine wpAny_in_heap (tupleKind_room_in1 hu) (a2c I.hok eb) hd dd ?_;have q:=(cy.val k).isSome_eq;rw[Option.isSome_map] at q;rw[←q,←l];exact h _ (I.tok _)
theorem b5z(hu:A.units+1<cLine)(I:Inv X bE σ H s)(g:a8e H a y o)(ry:l8 y u)(h:∀s',Inv X bE σ H s'->Q (.bool (!o.isSome)) s'):
 wpAny (model X.prog X.w) A (compareOp .NotIn u (.ref a)) Q E s:=by
 rcases g with⟨bF,k,e,ey,l⟩|⟨bF,k,b,e,ey,eb,l⟩
 · subst ey;obtain⟨z,hd,vs,cy,dd⟩:=a2z I.hok e;refine wpAny_notIn_of (a0a ry) hd dd.mapOf ?_;rw[←(cy.val k).isSome_eq,←l];exact h _ (I.tok _)
 · subst ey;cases (show u=Value.ref b from ry);obtain⟨z,hd,xs,cy,dd⟩:=a3N I.hok e;refine wpAny_notIn_heap (tupleKind_room_in1 hu) (a2c I.hok eb) hd dd ?_;have q:=(cy.val k).isSome_eq;rw[Option.isSome_map] at q;rw[←q,←l];exact h _ (I.tok _)
theorem a5H{t':Nat}{ob:HO}(I:Inv X bE σ H s)(mu:Mut (H a))(hs:Heap.SameBut a s.heap h')(he:∃q,h'.get? a=some q)(new:D2 X.prog X.w (upd H a ob) h' a ob):
 Inv X bE σ (upd H a ob) {s with heap:=h',toks:=t'}:=
 I.write (x:=a) (e:=a) mu (.inl rfl) (λb q hb z=>(hs.2 b hb).trans z) he new
theorem a7V{bF:List (Key×V)}{vs:List (Key×Value)}(z:↥bF<=sizeLine)(hd:(a==sysModules)=false)(cy:KV bF vs)(dd:h'.DictOf (z9 P w) a vs):
 D2 P w H' h' a (.dK bF):=⟨z,hd,vs,cy,dd⟩
theorem a4G{Q:Unit->Shared->Prop}(hu:A.units+1<cLine)(I:Inv X bE σ H s)(g:c2H H a y v H')(ry:l8 y u)(rv:l8 v r)(h:∀s',Inv X bE σ H' s'->Q () s'):
 wpAny (model X.prog X.w) A (setItem (.ref a) u r) Q E s:=by
 rcases g with⟨bF,k,e,ey,l,eH⟩|⟨bF,k,b,e,ey,eb,l,eH⟩
 · subst ey eH;obtain⟨z,hd,vs,cy,dd⟩:=b6f I.hok e;have hz:↥vs<=sizeLine:=by rw[←cy.length];exact z
   have hl:↥(Q1 bF k v)<=sizeLine:=by have:=Z5 bF k v;ac_nf
   refine wpAny_setItem_pairs (hsz:=hz) (a0a ry) dd λh' dd' hs=>h _ ?_;have he:∃q,h'.get? a=some q:=let⟨q,_,_,hq,_⟩:=dd';⟨q,hq⟩;exact a5H I (by rw[e];exact True.intro) hs he (a7V hl hd (cy.put k rv) dd')
 · subst ey eH;cases (show u=Value.ref b from ry);obtain⟨z,hd,xs,cy,dd⟩:=c0M I.hok e;have hz:↥xs<=sizeLine:=by rw[←Paired.length cy];exact z
   have hl:↥(Q1 bF k v)<=sizeLine:=by have:=Z5 bF k v;ac_nf
   refine wpAny_setItem_heap (hsz:=hz) (tupleKind_room_in1 hu) (a2c I.hok eb) dd λh' dd' hs=>h _ ?_;obtain⟨q,es,ep,hq,h2,h3,h4,_,h5⟩:=dd';refine a5H I (by rw[e];exact True.intro) hs ⟨q,hq⟩ ⟨hl,hd,_,(cy.put k eb rv).keeps λc ys ec=>?_,q,es,ep,hq,h2,h3,h4,h5⟩;rw[m8 (b9M ec e (λz=>nomatch z))];exact ec
end
section
variable{X:Cx}{s:Shared}{bF:List (Key×V)}{k:Key}{E:Value->Shared->Prop}
theorem c0O(I:Inv X bE σ H s)(e:Rd H a (.dK bF))(h:∀t s',Inv X bE σ H s'->Q (.int ↥bF t) s'):wpAny (model X.prog X.w) A (call (.builtin "len") [.ref a]) Q E s:=by obtain⟨z,hd,vs,cy,dd⟩:=a2z I.hok e;refine call_len_dict hd dd (by rw[←cy.length];rw[sizeLine_eq] at z;ac_nf) ?_;rw[←cy.length];exact h _ _ (I.tok _)
end
variable{prog:Program}{env:Env}{pos:Pos}{X:Cx}
theorem a6T{s:Shared}{o:Option V}(I:Inv X bE σ H s)(g:a8e H a y o):s.TypeIs (.ref a) "dict":=by
 rcases g with⟨bF,k,e,_,_⟩|⟨bF,k,b,e,_,_,_⟩
 · obtain⟨_,_,vs,_,dd⟩:=a2z I.hok e;exact dd.typeIs
 · obtain⟨_,_,xs,_,dd⟩:=a3N I.hok e;exact dd.typeIs
theorem a6S(h:Heap)(hb:sysModules<h.objs.size):D2 P w H (h.push {cls:=.type "dict",data:=.dict #[]}) h.objs.size (.dK []):=
 ⟨Nat.zero_le _,beq_eq_false_iff_ne.mpr (Ne.symm (Nat.ne_of_lt hb)),[],.nil,Heap.DictOf.new h⟩
def b6w:TE:=λ_ H Q=>∀p,H p=none->Q (.ref p) (upd H p (.dK []))
section
theorem b1l:PE X (.Dict [] [] pos) b6w:=λbE s σ H Q I h=>
 wpAny_Dict_empty ⟨.ref s.heap.objs.size,_,I.laid (a:=s.heap.objs.size) (o:=.dK []) (t':=s.toks) (λ_ _ q=>Heap.get?_push_of_some _ q) (aj _) (a6S s.heap I.big),rfl,h _ (I.hok.fresh (aj _))⟩
end
def a4T:List (TE×TE)->St->Hp->(List (V×V)->Hp->Prop)->Prop
 |[],_,H,Q=>Q [] H
 |(tk,tv)::r,σ,H,Q=>tk σ H λx H1=>tv σ H1 λy H2=>a4T r σ H2 λps H3=>Q ((x,y)::ps) H3
abbrev VV:List (V×V)->List (Value×Value)->Prop:=Paired λp q=>l8 p.1 q.1/\l8 p.2 q.2
def PPs(X:Cx)(pos:Pos)(dB:List (Option Expr))(dm:List Expr)(eE:List (TE×TE)):Prop:=
 ∀(bE:List (Addr×Obj)) (s:Shared) (σ:St) (H:Hp) (Q:List (V×V)->Hp->Prop),Inv X bE σ H s->a4T eE σ H Q→
  wpAny (model X.prog X.w) X.A (evalPairs (pairTrees dB dm X.env pos)) (λvs s'=>∃ps H',Inv X bE σ H' s'/\VV ps vs/\Q ps H') X.xe s
theorem b4e:PPs X pos [] [] []:=λbE s σ H Q I h=>pairTrees_nil_walk ⟨[],H,I,.nil,h⟩
variable{eE:List (TE×TE)}
theorem b1d{k v:Expr}{ks:List (Option Expr)}{vs:List Expr}{tk tv:TE}(hk:PE X k tk)(hv:PE X v tv)(hr:PPs X pos ks vs eE):
 PPs X pos (some k::ks) (v::vs) ((tk,tv)::eE):=λbE s σ H Q I h=>
 pairTrees_cons_walk (thn (hk bE s σ H _ I h) λu s1 ⟨x,H1,I1,rx,q1⟩=>thn (hv bE s1 σ H1 _ I1 q1) λw2 s2 ⟨y,H2,I2,ry,q2⟩=>
  thn (hr bE s2 σ H2 _ I2 q2) λws s3 ⟨ps,H3,I3,cy,q3⟩=>⟨(x,y)::ps,H3,I3,.cons ⟨rx,ry⟩ cy,q3⟩)
def W5(bF dj:List (Key×V)):List (Key×V):=dj.foldl (λbR kv=>Q1 bR kv.1 kv.2) bF
theorem KV.merge:∀{dj:List (Key×V)} {rs:List (Key×Value)} {bF:List (Key×V)} {vs:List (Key×Value)},KV dj rs->KV bF vs->KV (W5 bF dj) (merged vs rs):=by
 intro dj rs bF vs r;unfold KV at r
 induction r generalizing bF vs with
 |nil=>intro q;exact q
 | @cons p q ps qs h t ih=>
  intro r0;have e:KV (Q1 bF p.1 p.2) (stored vs q.1 q.2):=by have:=r0.put p.1 h.2;rw[←h.1];exact this
  exact ih e
theorem U4:∀(dj bF:List (Key×V)),↥(W5 bF dj)<=↥bF+↥dj
 |[],bF=>by show ↥bF<=↥bF+0;ac_nf
 |p::r,bF=>by have h1:=U4 r (Q1 bF p.1 p.2);have h2:=Z5 bF p.1 p.2;show(W5 (Q1 bF p.1 p.2) r).length<=_;rw[length_cons];ac_nf
theorem a3Q{P:Program}{w:World}:∀{bF:List (Key×V)} {ws:List (Value×Value)},VV (bF.map λkv=>(kV kv.1,kv.2)) ws->∃rs,Carries (z9 P w) ws rs/\KV bF rs
 |[],_,r=>by rw[map_nil] at r;cases r;exact⟨[],True.intro,.nil⟩
 | p::bF,_,r=>by
  rw[map_cons] at r;cases r with
  | @cons a b as bs h t=>
   obtain⟨rs,c,q⟩:=a3Q (P:=P) (w:=w) t;obtain⟨b1,b2⟩:=b;exact⟨(p.1,b2)::rs,⟨a0a h.1,rfl,c⟩,.cons ⟨rfl,h.2⟩ q⟩
def b9g(eE:List (TE×TE)):TE:=λσ H Q=>∀p,H p=none->a4T eE σ (upd H p (.dK [])) λps H2=>H2 p=some (.dK [])/\∃bF:List (Key×V),ps=bF.map (λkv=>(kV kv.1,kv.2))/\↥bF<=15/\Q (.ref p) (upd H2 p (.dK (W5 [] bF)))
theorem b4p{dB:List (Option Expr)}{dm:List Expr}(h:PPs X pos dB dm eE)(hall:dB.all (·.isSome)=true)(hl:↥dB=↥dm)(h0:dB≠[])
 (h15:↥dB<=15):PE X (.Dict dB dm pos) (b9g eE):=by
 intro bE s σ H Q I q;have hn:=I.hok.fresh (aj s.heap.objs.size);have I1:=I.laid (a:=s.heap.objs.size) (o:=.dK []) (h':=s.heap.push {cls:=.type "dict",data:=.dict #[]}) (t':=s.toks) (λ_ _ q=>Heap.get?_push_of_some _ q) (aj _) (a6S s.heap I.big);refine wpAny_Dict_walk (knd:=z9 X.prog X.w) hall hl h0 h15 (thn (h bE _ σ _ _ I1 (q _ hn)) λws s2 zz=>?_);obtain⟨ps,H2,I2,cy,e,bF,ep,lk,q2⟩:=zz;subst ep;obtain⟨rs,c,rk⟩:=a3Q (P:=X.prog) (w:=X.w) cy;obtain⟨z,hd,vs0,r0,dd⟩:=b6f I2.hok e;cases r0;refine⟨rs,c,dd,λh' dd' hs=>⟨.ref s.heap.objs.size,_,?_,rfl,q2⟩⟩;have hz:↥(W5 [] bF)<=sizeLine:=by have h1:=U4 bF [];rw[length_nil] at h1;rw[sizeLine_eq];ac_nf
 have he:∃q,h'.get? s.heap.objs.size=some q:=let⟨q,_,_,hq,_⟩:=dd';⟨q,hq⟩;exact a5H I2 (by rw[e];exact True.intro) hs he (a7V hz hd (rk.merge .nil) dd')
structure M2(X:Cx)(o:Expr)(m:Str)(cx:Pos)(e f:Expr)(cb:Pos):Prop where
 base:attributeBase o m X.env (eval o X.env)=eval o X.env
 few:((backTo cb (starEach [e,f] X.env)).all (λx=>!x.1)&&(backToKw cb (keywordEach [] X.env)).all (λx=>x.1.isSome)
  &&decide (↥([e,f]:List Expr)+↥([]:List Keyword)+(if([]:List Keyword).isEmpty then 0 else 1)<30))=true
 line:(cx.endLine==cb.line)=true
 trees:backTo cb (starEach [e,f] X.env)=[(false,eval e X.env),(false,eval f X.env)]
def IsD(H:Hp)(a:Addr):Prop:=(∃bF,Rd H a (.dK bF))∨∃bF,Rd H a (.dT bF)
theorem b7K{s:Shared}(I:Inv X bE σ H s)(d:IsD H a):
 s.TypeIs (.ref a) "dict"/\(∀b,Value.ref a=.ref b->∃ob,s.heap.get? b=some ob/\ob.dict=none)/\(a==sysModules)=false:=by
 rcases d with⟨bF,e⟩|⟨bF,e⟩
 · obtain⟨_,hd,vs,_,dd⟩:=a2z I.hok e;refine⟨dd.typeIs,λb q=>?_,hd⟩;cases q;obtain⟨ob,_,_,h1,h2,_⟩:=dd;exact⟨ob,h1,h2.2.1⟩
 · obtain⟨_,hd,xs,_,dd⟩:=a3N I.hok e;refine⟨dd.typeIs,λb q=>?_,hd⟩;cases q;obtain⟨ob,_,_,h1,h2,_⟩:=dd;exact⟨ob,h1,h2.2.1⟩
section
variable{s:Shared}{d:V}{r:Value}{o:Option V}{E:Value->Shared->Prop}
theorem b8m(hu:A.units+1<cLine)(I:Inv X bE σ H s)(g:a8e H a y o)(ry:l8 y u)(rd:l8 d r)(h:∀w' s',Inv X bE σ H s'->l8 (o.getD d) w'->Q w' s'):
 wpAny (model X.prog X.w) A (call (.builtin "dict.get") [.ref a,u,r]) Q E s:=by
 rcases g with⟨bF,k,e,ey,l⟩|⟨bF,k,b,e,ey,eb,l⟩
 · subst ey;obtain⟨z,hd,vs,cy,dd⟩:=a2z I.hok e;refine call_meetsIn PySem.F.slot_dict_get dd.typeIs PySem.F.entry_dict_get (PySem.F.args_dict_get_3 _ _ _) (meets_dict_get_default (z9 X.prog X.w) a (a0a ry) hd r) ⟨_,dd.mapOf,h _ _ (I.tok _) ?_⟩;rw[l];exact(cy.val k).getD rd
 · subst ey;cases (show u=Value.ref b from ry);obtain⟨z,hd,xs,cy,dd⟩:=a3N I.hok e;refine call_meetsIn PySem.F.slot_dict_get dd.typeIs PySem.F.entry_dict_get (PySem.F.args_dict_get_3 _ _ _) (meetsH_dict_get_default (tupleKind (z9 X.prog X.w)) a b hd r) ⟨tupleKind_room_in1 hu,k,xs,a2c I.hok eb,dd,h _ _ (I.tok _) ?_⟩;rw[l];exact(cy.val k).getD rd
end
end L2
namespace Att
open PySem PySem.W PySem.Calls PyProof.Rows
variable{P:Params}{h:Heap}
theorem a2F:∀(ns:List Int) (vs:List Value),WellAll P h vs (ns.map WData.int)->IntsAre vs ns:=by
 intro ns
 induction ns with
 |nil=>
  intro vs w;rw[map_nil] at w;cases w;exact .nil
 | cons n ns ih=>
  intro vs w;rw[map_cons] at w;cases w with
  |cons a b=>
   cases a;exact .cons _ _ (ih _ b)
variable{l:OpenLaw}{n:Nat}
theorem a9t(hn:l.most=some n){args:List WData}{vals:List Value}
 (hpre:l.row.toRowW.claim.pre args=true) (hwl:WellAll P h vals args):
 ∃a vs ns,vals=[Value.ref a]/\args=[WData.list (ns.map WData.int)]/\h.get? a=some {cls:=.type "list",data:=.seq vs.toArray}/\IntsAre vs ns/\↥ns<=n:=by
 have hsh:WShape.hasAll [] args [.list .int]=true:=(pre_splitW hpre).1;have hc:l.pre.holds [] {args:=args}=true:=(pre_splitW hpre).2;obtain⟨d,r,rfl,h1,h2⟩:=hasAllW_cons hsh;obtain rfl:=hasAllW_nil h2;obtain⟨xs,rfl,h3⟩:=hasW_list h1;obtain⟨ns,rfl⟩:=items_int h3;have bU:↥ns<=n:=by
  unfold OpenLaw.pre at hc;have h4:(WTm.not (.lt (.lit ⇑n) (.len (.arg 0)))).holds [] {args:=[.list (ns.map .int)]}=true:=by have h4:=(holds_andW hc).1;rw[hn] at h4;exact h4
  have h5:=condW_of h4 (w_not (w_lt w_lit (w_len_list (w_arg rfl))));rw[aa] at h5;refine aW λq=>?_;have q':(n:Int)<((↥ns:Nat):Int):=by ac_nf
  first
   |(rw[bf q'] at h5;exact absurd h5 ∅)
   |(simp at h5;ac_nf)
 cases hwl with
 |cons w1 w2=>
  cases w2;cases w1 with
  |list ho hall=>exact⟨_,_,ns,rfl,rfl,ho,a2F ns _ hall,bU⟩
theorem a9z(l:OpenLaw)(args:List WData):l.row.toRowW.claim.post args (.bool true) args=true:=
 postW_of (r:=l.row.toRowW) (X:=(true==true))
  (show WShape.has [] (.bool true) .bool=true by first|rfl|decide|simp[WShape.has,WShape.arms,WShape.armsAll])
  (show(WTm.eq .res (.lit (.bool true))).value [] {args:=args,res:=some (.bool true),after:=args}=some (.bool (true==true)) from w_eq_bool (w_res rfl) w_lit) rfl
variable{q:Program}{dF:List Str}{XP:(Str->Option Value)->Heap->Prop}{YP:World->Heap->Prop}{d:DefRec}
theorem a7g
 (hn:l.most=some n) (hdf:d.params.defaults=[])
 (call:∀(w:World) (s₀ bM:Shared) (mg mb:Str->Option Value) (fa:Addr) (o:Obj) (pm cd dh:Value) (a:Addr) (vs:List Value) (ns:List Int),
  Ground q dF [] XP w s₀ mg mb bM.heap->YP w bM.heap→
  bM.heap.get? fa=some o->o.data=.func (docDef d.name d.params d.body d.scope pm cd dh)->bM.heap.CodeRec cd d.name->mg d.name= ~~~fa→
  bM.heap.get? a=some {cls:=.type "list",data:=.seq vs.toArray}->IntsAre vs ns->↥ns<=n->bM.gens= #[]→
  codeAny (model l.prog w) callerA (.call (.ref fa) ⟨[.ref a],[]⟩) (λr s'=>r=.ok (.ret (.bool true))/\OldK bM.heap s'.heap/\s'.os=bM.os/\AllBare s'.gens) bM):
 WalkO q dF XP YP l.row.toRowW d [] (λf vs=>PySem.call f vs):=by
 intro w s₀ bM mg mb G Y fa o pm cd dh dV kV ho hd eS hD hmg hg args vals as hpre hlay hrd hwl hlo;obtain rfl:dV=.none:=Dflts.none hD hdf;obtain rfl:kV=.none:=Dflts.noKw hD;obtain⟨a,vs,ns,rfl,rfl,hobj,eX,bU⟩:=a9t hn hpre hwl;refine enter_call (codeAny_mono (call w s₀ bM mg mb fa o pm cd dh a vs ns G Y ho (fd_plain hd) eS hmg hobj eX bU hg) λr s' hq=>?_);obtain⟨rfl,h2,h3,h4⟩:=hq;exact⟨.inl ⟨.bool true,.bool true,[],rfl,λ_=>rfl,.bool true,a9z l _,λ_=>⟨List.Pairwise.nil,λ_ hm=>(nomatch hm)⟩⟩,h2,h3,h4⟩
variable{f:Addr}{C:Addr}{x:Addr}{ox:Obj}{es:List DictEntry}{v:Value}{L:Addr}{m:Str->Option Value}
end Att
namespace L2
open PySem PySem.Spec PyProof.Rows
theorem a4j:∀{vs:List Value} {ns:List Int},IntsAre vs ns->p7 (ns.map V.int) vs
 |_,_,.nil=>.nil
 |_,_,.cons n t h=>.cons ⟨t,rfl⟩ (a4j h)
def b3q(H:Hp):Prop:=∀b,H b=none∨∃o xs,H b=some (.frz o (.lst xs))
variable{P:Program}{w:World}{K:PySem.W.Frag}{mg:Str->Option Value}{CX:CXT}{a:Addr}{fd:FuncData}{x:Str}{sp:Sp}{vs:List Value}{ns:List Int}
theorem b1G{mb:Str->Option Value}{k:Nat}{fa:Addr}{bM:Shared}
 (KX:K.In bM.heap) (hns:bM.heap.Ns mainGlobals mg) (hb:bM.heap.Ns builtinsNs mb) (hbb:∀x:Str,x≠"__name__"->mb x=bootBuiltins x) (hlim:bM.heap.NoLimit) (hg:bM.gens= #[])
 (ha:bM.heap.get? a=some {cls:=.type "list",data:=.seq vs.toArray}) (hi:IntsAre vs ns) (hl:↥ns<=sizeLine) (hr:Room k callerA)
 (F:∀base:Heap,K.In base->base.Ns mainGlobals mg->FnOk P w K mg base CX k fa fd [x] sp) (hbind:∀(s:Shared) (u:Value),BindsTo s fd ⟨[u],[]⟩ [(x,u)])
 (eQ:∀H:Hp,b3q H->SqL K H a (ns.map V.int)->sp [.ref a] H (λv _=>v=.bl true) λ_ _ _=>False)
 (hCX:∀H e s',CX [] H bM (λ_ _ _=>False) e s'->False):
 codeAny (model P w) callerA (.call (.ref fa) ⟨[.ref a],[]⟩) (λr s'=>r=.ok (.ret (.bool true))/\OldK bM.heap s'.heap/\s'.os=bM.os/\AllBare s'.gens) bM:=by
 have rv:=a4j hi;have lenV:=↥hi
 -- from an abstract heap in which nothing but the script may be tracked
 have bH:∀H:Hp,b3q H->SqL K H a (ns.map V.int)->HOk P w H bM.heap->(∀b,H b≠none->b=a)->(H a≠none->K.lookup a=none)→
  codeAny (model P w) callerA (.call (.ref fa) ⟨[.ref a],[]⟩) (λr s'=>r=.ok (.ret (.bool true))/\OldK bM.heap s'.heap/\s'.os=bM.os/\AllBare s'.gens) bM:=by
  intro H hO hS hok hA hK;have base_of:∀{b:Addr} {o:Obj},bM.heap.get? b=some o->H b=none->(a5y bM.heap H).get? b=some o:=λe n=>b1X e n;have noA:∀{b:Addr} {o:Obj} {es:Array DictEntry} {ep:Nat},bM.heap.get? b=some o->o.data=.dict es ep->H b=none:=fun{b o es ep} e d=>by
   cases q:H b with
   |none=>rfl
   |some u=>
    have e':b=a:=hA b (by rw[q];simp);subst e';rw[ha] at e;cases e;have d':Data.seq vs.toArray _=Data.dict es ep:=d;cases d'
  have nsK:∀{b:Addr} {m:Str->Option Value},bM.heap.Ns b m->(a5y bM.heap H).Ns b m:=fun{b m} ⟨o,es,ep,e,d,r⟩=>⟨o,es,ep,base_of e (noA e d),d,r⟩;have hKb:K.In (a5y bM.heap H):=λb o e=>base_of (KX b o e) (by
   cases q:H b with
   |none=>rfl
   |some u=>
    have e':b=a:=hA b (by rw[q];simp);subst e';rw[hK (by rw[q];simp)] at e;cases e)
  have hM:Mod K mg (a5y bM.heap H):=⟨hKb,nsK hns,⟨mb,nsK hb,hbb⟩,let⟨mc,h1,h2⟩:=hlim;⟨mc,nsK h1,h2⟩⟩;have e0:Env0 P w K mg (a5y bM.heap H) callerA [] bM H:=⟨rfl,hM,λb o e=>b4A e,Nat.le_of_eq (a9R _ _),trivial,λb hb=>absurd (show b∈([]:List Addr) from hb) ⋯,hok,.of_eq hg⟩;refine codeAny_mono ((F _ hKb (nsK hns)).run callerA [] bM H ⟨[.ref a],[]⟩ [.ref a] [.ref a] _ _ hr e0 (hbind bM (.ref a)) (.cons rfl .nil) (eQ H hO hS)) λr s' h=>?_;cases r with
  |error e=>exact(hCX H e s' h).elim
  | ok fl=>
   cases fl with
   |next=>exact False.elim h
   |brk=>exact False.elim h
   |cont=>exact False.elim h
   | ret u=>
    obtain⟨v,H',os,bare,un,hok',r',q⟩:=h;have q':v=.bl true:=q;subst q';obtain rfl:u=Value.bool true:=r';refine⟨rfl,OldK.of_keep λb o e=>?_,os,bare⟩;cases q:H b with
    |none=>exact un.keep b o e q (by intro z;exact absurd (show b∈([]:List Addr) from z) ⋯) ⋯
    |some u=>
     rcases hO b with z|⟨ob,xs,z⟩
     · rw[q] at z;cases z
     · have z2:=un.frzs b ob _ z;obtain⟨e1,_⟩:=hok b _ z;obtain⟨e2,_⟩:=hok' b _ z2;rw[e] at e1;cases e1;exact e2
 cases hk:K.lookup a with
 |some o=>
  -- the script is one of the module's own objects
  have e:=KX a o hk;rw[ha] at e;cases e;refine bH (λ_=>none) (λ_=>.inl rfl) (.inr ⟨_,vs.toArray,_,hk,rfl,rfl,rfl,by rw[size_toArray,lenV];exact hl,by simpa using rv⟩) (λb u z=>by have z':(none:Option HO)=some u:=z;cases z') (λb z=>absurd rfl z) λz=>absurd rfl z
 |none=>
  refine bH (λb=>if b=a then some (.frz {cls:=.type "list",data:=.seq vs.toArray} (.lst (ns.map V.int))) else none) (λb=>?_) (.inl (.inr ⟨{cls:=.type "list",data:=.seq vs.toArray},az rfl⟩)) (λb u z=>?_) (λb z=>?_) λ_=>hk
  · by_cases hb:b=a
    · exact .inr ⟨_,_,az hb⟩
    · exact .inl (aA hb)
  · by_cases hb:b=a
    · have z':=(az hb).symm.trans z;cases z';subst hb;exact⟨ha,by rw[aa];exact hl,vs,_,rv,ha⟩
    · have z':=(aA hb).symm.trans z;cases z'
  · by_cases hb:b=a
    · exact hb
    · exact absurd (aA hb) z
abbrev KOf{K:PySem.W.Frag}{h:Heap}(_:K.In h):PySem.W.Frag:=K
variable{n:Nat}{q:Program}{dF:List Str}{XP:(Str->Option Value)->Heap->Prop}{YP:World->Heap->Prop}
theorem b3t{l:PySem.W.OpenLaw}{k:Nat}{d:DefRec}{K:Params->PySem.W.Frag}{CX:World->CXT}{sp:World->Sp}
 (hn:l.most=some n) (hn2:n<=sizeLine) (hdf:d.params.defaults=[]) (hr:Room k callerA)
 (hY:∀(w:World) (h:Heap),YP w h->(K w.params).In h)
 (F:∀(w:World) (mg:Str->Option Value) (fa:Addr) (h:Heap),(K w.params).In h->h.Ns mainGlobals mg->mg d.name= ~~~fa→
  ∃fd:FuncData,(∀(s:Shared) (u:Value),BindsTo s fd ⟨[u],[]⟩ [(x,u)])∧
   ∀base:Heap,(K w.params).In base->base.Ns mainGlobals mg->FnOk l.prog w (K w.params) mg base (CX w) k fa fd [x] (sp w))
 (eQ:∀(w:World) (H:Hp) (a:Addr) (ns:List Int),↥ns<=n->b3q H->SqL (K w.params) H a (ns.map V.int)->sp w [.ref a] H (λv _=>v=.bl true) λ_ _ _=>False)
 (hCX:∀(w:World) (H:Hp) (s:Shared) (e:Value) (s':Shared),CX w [] H s (λ_ _ _=>False) e s'->False):
 PySem.W.WalkO q dF XP YP l.row.toRowW d [] (λf vs=>PySem.call f vs):=by
 refine Att.a7g hn hdf λw s₀ bM mg mb fa o pm cd dh a vs ns G Y ho hd eS hmg hobj eX bU hg=>?_;have KX:=hY w _ Y;obtain⟨fd,hb,hF⟩:=F w mg fa _ KX G.T.g hmg;exact b1G KX G.T.g G.T.b G.T.builtins G.T.nolimit hg hobj eX (aU bU hn2) hr hF hb (λH hO hS=>eQ w H a ns bU hO hS) λH e s'=>hCX w H bM e s'
noncomputable def b4S(s:Stmt)(j:Nat):Stmt:=match s with
 |.ClassDef _ _ _ body _ _ _ _ _ _ _=>body.getD j (.Pass ⟨0,0,0,0⟩)
 |_=>.Pass ⟨0,0,0,0⟩
noncomputable def T9(s:Stmt):Arguments:=match s with
 |.FunctionDef _ a _ _ _ _ _ _ _ _=>a
 |_=>{posonlyargs:=[],args:=[],vararg:=none,kwonlyargs:=[],kw_defaults:=[],kwarg:=none,defaults:=[]}
noncomputable def O2(s:Stmt):List Stmt:=match s with
 |.FunctionDef _ _ b _ _ _ _ _ _ _=>b
 |_=>[]
noncomputable def y8(s:Stmt):Scope:=match s with
 |.FunctionDef _ _ _ _ _ _ sc _ _ _=>sc
 |_=>{kind:=.function,names:=[],isGenerator:=false,isCoroutine:=false}
abbrev CX0:CXT:=λ_ _ _ _ _ _=>False
abbrev E0:XK:=λ_ _ _=>False
variable{X:Cx}
theorem b5V:a3Z CX0 X E0:=λ_ _ _ _ _ _ _ h=>h.elim
structure Fun(K:PySem.W.Frag)(x qual:Str)(st:Stmt)(f:Addr)(fd:FuncData):Prop where
 ex:∃(oc:Value) (od:Option Addr) (kV dh pm:Value) (an:Option Addr) (cQ ct:Value) (eI:Array (Option Value)),
  fd=PySem.W.fnOf x qual (T9 st) (O2 st) (y8 st) .none kV dh pm an cQ ct/\K.lookup f=some ⟨oc,od,.func fd,eI⟩/\PySem.W.codeIn K cQ qual=true
 kp:PySem.W.keepIn K (.ref f)=true
variable{qual:Str}{st:Stmt}{N:List Str}{ps:List Str}{oc:Value}{od:Option Addr}{an:Option Addr}{eI:Array (Option Value)}{dh:Value}{pm:Value}{cQ:Value}{ct:Value}
section
variable{base:Heap}
theorem Fun.binds{f:Addr}(F:Fun K x qual st f fd)
 (h:∀(kV dh pm:Value) (an:Option Addr) (cQ ct:Value) (us:List Value),↥us=↥ps->bindArgs (PySem.W.fnOf x qual (T9 st) (O2 st) (y8 st) .none kV dh pm an cQ ct) ⟨us,[]⟩=pure (ps.zip us)):U0 K fd ps []:=by
 obtain⟨oc,od,kV,dh,pm,an,cQ,ct,eI,rfl,lk,eS⟩:=F.ex;exact .all (h kV dh pm an cQ ct)
theorem b2o{f:Addr}{kV:Value}(l:K.lookup f=some ⟨oc,od,.func (PySem.W.fnOf x qual (T9 st) (O2 st) (y8 st) .none kV dh pm an cQ ct),eI⟩)
 (c:PySem.W.codeIn K cQ qual=true) (k:PySem.W.keepIn K (.ref f)=true):Fun K x qual st f (PySem.W.fnOf x qual (T9 st) (O2 st) (y8 st) .none kV dh pm an cQ ct):=⟨⟨oc,od,kV,dh,pm,an,cQ,ct,eI,rfl,l,c⟩,k⟩
end
variable{A:Around}{pos:Pos}
theorem b7F{A B:Prop}(h:B):if false=true then A else B:=by rw[aA bt];exact h
theorem b7E{A B:Prop}(h:A):if true=true then A else B:=by rw[az rfl];exact h
def c2F(H H':Hp):Prop:=∀b o,H b=some o->H' b=some o
variable{H:Hp}{H':Hp}
noncomputable def L1(cells:List (Str×Addr)):List (Str×NameKind)->List (Str×Addr)->List (Str×Addr)
 |[],bR=>bR
 |(n,k)::r,bR=>if k=NameKind.free then(match cells.lookup n with|some c=>L1 cells r ((n,c)::bR)|none=>L1 cells r bR) else L1 cells r bR
theorem V6{cells:List (Str×Addr)}{x:Str}{c:Addr}:∀{l:List (Str×NameKind)} {bR:List (Str×Addr)},(x,c)∈L1 cells l bR->(x,c)∈bR∨((x,NameKind.free)∈l/\cells.lookup x=some c)
 |[],_,h=>.inl h
 | (n, k)::r,bR,h=>by
  unfold L1 at h
  by_cases hk:k=NameKind.free
  · rw [az hk] at h;cases e:cells.lookup n with
    |none=>
     rw[e] at h;rcases V6 h with q|⟨q,z⟩
     · exact .inl q
     · exact .inr ⟨aF _ q,z⟩
    |some d=>
     rw[e] at h;rcases V6 h with q|⟨q,z⟩
     · rcases aH.mp q with q|q
       · cases q;exact .inr ⟨by rw[hk];exact ba,e⟩
       · exact .inl q
     · exact .inr ⟨aF _ q,z⟩
  · rw[aA hk] at h;rcases V6 h with q|⟨q,z⟩
    · exact .inl q
    · exact .inr ⟨aF _ q,z⟩
theorem a0G{cells:List (Str×Addr)}{p:Str×Addr}:∀{l:List (Str×NameKind)} {bR:List (Str×Addr)},p∈bR->p∈L1 cells l bR
 |[],_,h=>h
 | (n,k)::r,bR,h=>by
  unfold L1
  by_cases hk:k=NameKind.free
  · rw[az hk];cases e:cells.lookup n with
    |none=>exact a0G h
    |some d=>exact a0G (aF _ h)
  · rw[aA hk];exact a0G h
theorem a1F{cells:List (Str×Addr)}{x:Str}{c:Addr}(hc:cells.lookup x=some c):∀{l:List (Str×NameKind)} {bR:List (Str×Addr)},(x,NameKind.free)∈l->(x,c)∈L1 cells l bR
 | (n,k)::r,bR,h=>by
  unfold L1;rcases aH.mp h with q|q
  · cases q;rw[az rfl,hc];exact a0G ba
  · by_cases hk:k=NameKind.free
    · rw[az hk];cases e:cells.lookup n with
      |none=>exact a1F hc q
      |some d=>exact a1F hc q
    · rw[aA hk];exact a1F hc q
theorem a4f{cl:List (Str×Addr)}{c:Addr}:(∀d,(x,d)∈cl->d=c)->(x,c)∈cl->cl.lookup x=some c:=by
 induction cl with
 |nil=>intro _ h;cases h
 |cons p r ih=>
  intro ha h;obtain⟨n,d⟩:=p;rw[lookup_cons]
  by_cases e:x=n
  · subst e;rw[beq_self_eq_true];rw[ha d ba]
  · rw[show(x==n)=false from beq_eq_false_iff_ne.mpr e];refine ih (λd' hd'=>ha d' (aF _ hd')) ?_;rcases aH.mp h with q|q
    · cases q;exact absurd rfl e
    · exact q
variable{cells:List (Str×Addr)}{l:List (Str×NameKind)}
theorem a1B{c:Addr}(hl:(x,NameKind.free)∈l)(hc:cells.lookup x=some c):(L1 cells l []).lookup x=some c:=
 a4f (λd hd=>by
  rcases V6 hd with q|⟨_,z⟩
  · cases q
  · rw[hc] at z;exact(ay z).symm) (a1F hc hl)
theorem R6{c:Addr}(h:(L1 cells l []).lookup x=some c):cells.lookup x=some c:=by
 rcases V6 (PySem.mem_of_lookup h) with q|⟨_,z⟩
 · cases q
 · exact z
theorem a1b{env:Env}{f:Str×NameKind->List (Str×Addr)->Sem (ForInStep (List (Str×Addr)))}
 (hf:∀n k r,f (n,k) r=if(k==NameKind.free)=true then(cellOf env n>>=λa=>pure (ForInStep.yield ((n,a)::r))) else pure (ForInStep.yield r)):
 ∀(l:List (Str×NameKind)) (bR:List (Str×Addr)),(∀y∈l,y.2=NameKind.free->∃c,env.cells.lookup y.1=some c)->(forIn l bR f:Sem (List (Str×Addr)))=pure (L1 env.cells l bR)
 |[],bR,_=>rfl
 | (n,k)::r,bR,h=>by
  rw[forIn_cons,hf];unfold L1
  by_cases hk:k=NameKind.free
  · subst hk;obtain⟨c,hc⟩:=h (n,.free) ba rfl;have eY:env.cells.lookup n=some c:=hc;have e1:cellOf env n=pure c:=by unfold cellOf;rw[eY]
    rw[az (beq_self_eq_true _),az rfl,e1,eY];simp only[pure_bind];exact a1b hf r _ λy hy=>h y (aF _ hy)
  · have hb:¬(k==NameKind.free)=true:=λz=>hk (by simpa using z);rw[aA hb,aA hk];simp only[pure_bind];exact a1b hf r _ λy hy=>h y (aF _ hy)
variable{scope:Scope}{env:Env}
theorem a0Q(h:∀y∈scope.names,y.2=NameKind.free->∃c,env.cells.lookup y.1=some c):closureFor scope env=pure (L1 env.cells scope.names []):=by
 unfold closureFor
 dsimp only
 rw[a1b (env:=env) (λn k r=>by rfl) scope.names [] h];rfl
theorem a2r{k:NameKind}(h:(relabel scope env).names.lookup x=some k):(x,k)∈scope.names∨((x,NameKind.free)∈scope.names/\k=.cell):=by
 obtain⟨⟨n,k'⟩,hm,e⟩:=ao.mp (PySem.mem_of_lookup h)
 dsimp only at e
 split at e
 · rename_i hc;cases e;have hk:k'=NameKind.free:=by simp only[ae,beq_iff_eq] at hc;exact hc.1.1
   exact .inr ⟨hk▸hm,rfl⟩
 · cases e;exact .inl hm
theorem a1w{env:Env}:∀{names:List (Str×NameKind)} {x:Str},names.lookup x=some .free→
 (names.map fun(n,k)=>if(k==NameKind.free&&env.scope.kind==.function&&env.kindOf n==some .cell) then(n,NameKind.cell) else(n,k)).lookup x=some .cell∨
 (names.map fun(n,k)=>if(k==NameKind.free&&env.scope.kind==.function&&env.kindOf n==some .cell) then(n,NameKind.cell) else(n,k)).lookup x=some .free
 |[],_,h=>by simp at h
 | (n,k)::r,x,h=>by
  have ih:= @a1w env r x;rw[map_cons];cases hx:x==n with
  |true=>
   simp only[lookup_cons,hx] at h;cases h
   by_cases hc:(NameKind.free==NameKind.free&&env.scope.kind==.function&&env.kindOf n==some .cell)=true
   · refine .inl ?_;simp only[az hc,lookup_cons,hx]
   · refine .inr ?_;simp only[aA hc,lookup_cons,hx]
  |false=>
   simp only[lookup_cons,hx] at h
   by_cases hc:(k==NameKind.free&&env.scope.kind==.function&&env.kindOf n==some .cell)=true
   · simp only[az hc,lookup_cons,hx];exact ih h
   · simp only[aA hc,lookup_cons,hx];exact ih h
structure CompScope(sc scope:Scope)(own frees:List Str):Prop where
 kind:scope.kind=.function
 nocell:∀y∈scope.names,y.2≠.cell
 locs:∀y∈scope.names,y.2=.local->scope.names.lookup y.1=some .local
 out:∀y∈scope.names,y.2=.free->sc.names.lookup y.1=some .cell
 nd:(own++frees).Nodup
 ownL:∀x∈own,scope.names.lookup x=some .local
 fr:∀x∈frees,scope.names.lookup x=some .free
def w5(X:Cx)(own frees:List Str)(scope:Scope)(C:Addr)(s₀:Shared)(H₀:Hp)(ex:List Addr):Cx:=
 { prog:=X.prog,w:=X.w,K:=X.K,mg:=X.mg,base:=X.base,A:=X.A,N:=own++frees,s₀:=s₀,H₀:=H₀,env:=compEnvC scope (L1 X.env.cells scope.names []) C X.env,
   outer:=X.stack,stack:=X.stack,ex:=ex,fn:=λ_=>false,calm:=X.calm,pn:=[],xe:=λ_ _=>False}
noncomputable def E9(own:List Str)(js:List Nat)(σ:St):St:=own.map (λ_=>none)++js.map (λj=>(σ[j]?).join)
def Wk(σ bS:St):Prop:=↥σ=↥bS/\∀(i:Nat) (v:V),σ[i]? =some (some v)->bS[i]? =some (some v)
variable{σ:St}{v:V}
def a7h(X:Cx)(ifs:List Expr)(t:TT):Prop:=
 ∀(bE:List (Addr×Obj)) (s:Shared) (σ:St) (H:Hp) (Q:Bool->Hp->Prop),Inv X bE σ H s->t σ H Q→
  wpAny (model X.prog X.w) X.A (forIn ifs true λc r=>if r=true then do let ok←isTrue c X.env (eval c X.env);pure (ForInStep.yield ok) else pure (ForInStep.yield r)) (TP X bE σ Q) X.xe s
theorem b4i:a7h X [] (λ_ H Q=>Q true H):=λ_ _ _ H _ I h=>wpAny_tests_nil ⟨H,I,h⟩
variable{c:Expr}
theorem b4h{t:TT}(h:PT X c t):a7h X [c] t:=λbE s σ H Q I q=>wpAny_tests_one (h bE s σ H Q I q)
variable{iter:Expr}
section
variable{prog:Program}{R:Result->Shared->Prop}{s:Shared}
theorem a5K{cN target:Expr}{ifs:List Expr}{it bR:Value}(I:Nat->Shared->Prop)
 (eg:∀n s,I n s->wpAny (model prog w) A (pyNext it) (λr bM=>match r with
  |none=>R (.ok .next) bM
  | some v=>wpAny (model prog w) A (letOwnedTupleGo target it v) (λ_ s₁'=>wpAny (model prog w) A (assign target env v) (λ_ di=>
   wpAny (model prog w) A (forIn ifs true λc r=>if r=true then do let ok←isTrue c env (eval c env);pure (ForInStep.yield ok) else pure (ForInStep.yield r)) (λok eG=>
    if ok=true then wpAny (model prog w) A (eval cN env) (λx s₄=>
     wpAny (model prog w) A (call (.builtin "list.append") [bR,x]) (λ_ s₅=>∃m,m<n/\I m s₅) (λ_ _=>False) s₄) (λ_ _=>False) eG
    else∃m,m<n/\I m eG) (λ_ _=>False) di) (λ_ _=>False) s₁') (λ_ _=>False) bM) (λ_ _=>False) s)
 (n:Nat) (h:I n s):codeAny (model prog w) A (.compLoop (.ListComp cN [⟨target,iter,ifs,0⟩] scope pos) 0 it bR env) R s:=by
 have no:∀{α:Type} {t:Sem α} {Q:α->Shared->Prop} {E:Value->Shared->Prop} {s:Shared},wpAny (model prog w) A t Q (λ_ _=>False) s->wpAny (model prog w) A t Q E s:=
  λh=>wpAny_mono h (λ_ _ q=>q) λ_ _ z=>z.elim
 refine codeAny_loop rfl I (λn s hI=>?_) n h;show wpAny _ A ((compTurn (.ListComp cN [⟨target,iter,ifs,0⟩] scope pos) 0 it bR env).onRaise (λx=>do noteFrame x env;theTreesLotGoes x)) _ _ s;refine wpAny_noted ?_;rw[compTurn_list];refine wpAny_bind (wpAny_standAt (wpAny_bind (no (wpAny_mono (eg n s hI) (λr bM dU=>?_) λ_ _ h'=>h'))));cases r with
 |none=>exact wpAny_pure dU
 | some v=>
  refine wpAny_bind (no (wpAny_mono dU (λ_ s₁' h₁'=>?_) λ_ _ h'=>h'));refine wpAny_bind (no (wpAny_mono h₁' (λ_ di h₂=>wpAny_bind (no (wpAny_mono h₂ (λok eG h₃=>?_) λ_ _ h'=>h'))) λ_ _ h'=>h'));cases ok with
  |false=>exact wpAny_pure ⟨rfl,h₃⟩
  |true=>
   exact wpAny_bind (wpAny_bind (no (wpAny_mono h₃ (λx s₄ h₄=>wpAny_bind (no (wpAny_mono h₄ (λ_ s₅ h₅=>wpAny_pure (wpAny_pure ⟨rfl,h₅⟩)) λ_ _ h'=>h'))) λ_ _ h'=>h')))
end
variable{h:Heap}{h':Heap}
def a8h(own:List Str)(js:List Nat)(wi:TI)(g:TG)(tc:TT)(te:TE):TE:=λσ H Q=>wi σ H λJ H1=>∀D,H1 D=none→
 ∃ W:Nat->Nat->List V->Hp->Prop,(∃m,W 0 m [] (upd H1 D (.lst [])))/\∀i m ys H2,W i m ys H2→
  (J.stop i H2/\Q (.ref D) H2)∨(J.go i H2/\∀x H3,J.yld i H2 x H3->g x (E9 own js σ) H3 λσ4 H4=>Wk (E9 own js σ) σ4/\tc σ4 H4 λb H5=>
   if b=true then te σ4 H5 λy H6=>H6 D=some (.lst ys)/\↥ys<sizeLine/\∃m',m'<m/\W (i+1) m' (ys++[y]) (upd H6 D (.lst (ys++[y])))
   else∃m',m'<m/\W (i+1) m' ys H5)
variable{bE:List (Addr×Obj)}{C:Addr}{fp:List Addr}{s':Shared}{m:Str->Option Value}
section
variable{cN tg:Expr}{ifs:List Expr}{own frees:List Str}{js:List Nat}{wi:TI}{g:TG}{tc:TT}{te:TE}
theorem b5C{s:Shared}(I:Inv X bE σ H s)(S:CompScope X.env.scope scope own frees)(hC:s.heap.objs.size<=C)
 (hf:∀b∈fp,a2I X bE H b) (ho:∀b∈fp,∃o,s.heap.get? b=some o):(w5 X own frees scope C s H fp).Ok:=by
 have cellX:∀x c,(L1 X.env.cells scope.names []).lookup x=some c->X.env.cells.lookup x=some c:=λx c e=>R6 e;refine⟨I.ok.mod,S.kind,I.ok.glob,I.ok.blt,hC,λx y c h1 h2=>I.ok.inj x y c (cellX x c h1) (cellX y c h2),λx hx=>?_,λx c h=>(bt h).elim,I.ok.hd,I.ok.frames,.inl rfl,λb hb=>⟨?_,λx c e=>(hf b hb).2.2.2.2.1 x c (cellX x c e)⟩,
  I.bs,aU I.ok.bsz I.sz,λb o e hb=>?_,λb hb hm=>?_,I.stack,I.stkFree⟩
 · have ee:(relabel scope X.env).names.lookup x=some .cell∨(relabel scope X.env).names.lookup x=some .free:=hx;have hm:(x,NameKind.free)∈scope.names:=by
    rcases ee with q|q
    · rcases a2r q with z|z
      · exact absurd rfl (S.nocell _ z)
      · exact z.1
    · rcases a2r q with z|z
      · exact z
      · exact z.1
   obtain⟨c,hc⟩:=I.ok.has x (.inl (S.out _ hm rfl));exact⟨c,a1B hm hc⟩
 · intro e;obtain⟨o,q⟩:=ho b hb;have e':b=C:=e;have:=Heap.lt_size q;rw[e'] at this;exact absurd (aE this hC) (aT _)
 · rcases(hf b hb).2.2.2.1 with z|z
   · exact I.ok.noex b o e z
   · exact absurd (aE (aE (Heap.lt_size e) I.ok.bsz) z) (aT _)
 · rcases aH.mp (I.stkSub b hm) with z|z
   · exact(hf b hb).2.1 z
   · exact(hf b hb).2.2.1 z
theorem b2X {s:Shared} (I:Inv X bE σ H s) (S:CompScope X.env.scope scope own frees) (hj:frees.map some=js.map (X.N[·]?)) (hC:s.heap.objs.size<=C)
 (hf:∀b∈fp,a2I X bE H b) (ho:∀b∈fp,∃o,s.heap.get? b=some o) (os:s'.os=s.os) (bare:AllBare s'.gens) (k:∀b o,s.heap.get? b=some o->s'.heap.get? b=some o) (un:Un (frs X.stack) fp H H' s.heap s'.heap)
 (hn:s'.heap.Ns C m) (hCn:H' C=none) (hok:HOk X.prog X.w H' s'.heap) (hcl:∀x c,X.env.cells.lookup x=some c->H' c=none):
 Inv (w5 X own frees scope C s H fp) [] (E9 own js σ) H' s':=by
 have bU:↥frees=↥js:=by have:=congrArg List.length hj;simpa using this
 refine⟨b5C I S hC hf ho,os,bare,un,⟨m,hn,λi x v h1 h2 h3=>?_⟩,λx c e=>?_,hCn,λx c e=>hcl x c (R6 e),λp hp=>absurd (show p∈([]:List (Addr×Obj)) from hp) ⋯,hok,?_⟩
 · have h1':(own++frees)[i]? =some x:=h1;unfold E9 at h2
   by_cases hi:i<↥own
   · rw[aw (by simpa using hi),ak] at h2;cases q:own[i]? with
     |none=>rw[q] at h2;cases h2
     |some z=>rw[q] at h2;cases h2
   · have hi':↥own<=i:=aW hi;rw[av hi'] at h1';rw[av (by simpa using hi'),aa,ak] at h2;cases q:js[i-↥own]? with
     |none=>rw[q] at h2;cases h2
     | some j=>
      rw[q] at h2;have h2':(σ[j]?).join=some v:=ay h2;have hσ:σ[j]? =some (some v):=by
       cases z:σ[j]? with
       |none=>rw[z] at h2';cases h2'
       |some w'=>rw[z] at h2';exact congrArg some h2'
      have hX:X.N[j]? =some x:=by have e:=congrArg (λl=>l[i-↥own]?) hj;rw[ak,ak,h1',q] at e;exact(ay e).symm
      have hm:(x,NameKind.free)∈scope.names:=PySem.mem_of_lookup (S.fr x (aI h1'));have dG:=S.out _ hm rfl;obtain⟨m0,hn0,hl0⟩:=I.loc;obtain⟨u,ru,l⟩:=hl0 j x v hX hσ (.inr (.inl dG));refine⟨u,ru,?_⟩;rcases l with⟨q1,_⟩|⟨_,c,e,z⟩
      · have q1':X.env.scope.names.lookup x=some .local:=q1;rw[dG] at q1';cases q1'
      · refine .inr ⟨a1w (S.fr x (aI h1')),c,a1B hm e,?_⟩;obtain⟨o,eo,d⟩:=z;exact⟨o,k c o eo,d⟩
 · obtain⟨v,o,eo,d⟩:=I.cell x c (R6 e);exact⟨v,o,k c o eo,d⟩
 · show(E9 own js σ).length=↥(own++frees);unfold E9;rw[au,aa,aa,au,bU]
end
variable{Q:Value->Shared->Prop}
section
def c1R:V->Option Int->Option Int->Hp->VK->Prop:=λx lo hi H Q=>∃z,x=.str z/\↥z<=sizeLine/\Q (.str (Txt.slice z lo hi)) H
theorem b6B:SlR X c1R:=by
 intro bE s σ H x v vl vu lo hi sl Q I rx hs pl pu h;obtain⟨z,rfl,hz,q⟩:=h;obtain⟨t,rfl⟩:=rx;have cM:∀(t':Tok) (k:Nat),EP X bE σ Q (.str (Txt.slice z lo hi) t') {s with toks:=k}:=λt' k=>⟨.str _,H,I.tok _,⟨_,rfl⟩,q⟩;refine⟨"str",_,PySem.F.slot_str_getitem.lookup,typeIs_str _ _ _,?_⟩;obtain⟨o,e1,e2,e3⟩:=hs;cases pl with
 |none=>
  cases pu with
  |none=>exact wpAny_getItem_str_slice (l:=none) (u:=none) (st:=none) ⟨o,e1,e2,e3⟩ rfl (post_val_or_str ⟨aU (Txt.slice_le z _ _) hz,λt' k=>cM t' k⟩)
  |int j uj=>exact wpAny_getItem_str_slice (l:=none) (u:=some (j,uj)) (st:=none) ⟨o,e1,e2,e3⟩ rfl (post_val_or_str ⟨aU (Txt.slice_le z _ _) hz,λt' k=>cM t' k⟩)
 |int i ui=>
  cases pu with
  |none=>exact wpAny_getItem_str_slice (l:=some (i,ui)) (u:=none) (st:=none) ⟨o,e1,e2,e3⟩ rfl (post_val_or_str ⟨aU (Txt.slice_le z _ _) hz,λt' k=>cM t' k⟩)
  |int j uj=>exact wpAny_getItem_str_slice (l:=some (i,ui)) (u:=some (j,uj)) (st:=none) ⟨o,e1,e2,e3⟩ rfl (post_val_or_str ⟨aU (Txt.slice_le z _ _) hz,λt' k=>cM t' k⟩)
theorem a4i:∀l:List (Str×Tok),p7 ((l.map (·.1)).map V.str) (strValues l)
 |[]=>.nil
 |(x,t)::r=>.cons ⟨t,rfl⟩ (a4i r)
theorem a4l:∀{xs:List Str} {us:List Value},p7 (xs.map V.str) us->∃l:List (Str×Tok),us=strValues l/\l.map (·.1)=xs
 |[],us,r=>by rw[map_nil] at r;cases r;exact⟨[],rfl,rfl⟩
 | x::xs,us,r=>by
  rw[map_cons] at r;cases r with
  |cons r1 r2=>
   obtain⟨t,rfl⟩:=r1;obtain⟨l,rfl,rfl⟩:=a4l r2;exact⟨(x,t)::l,rfl,rfl⟩
def b6I:V->List V->Hp->VK->Prop:=λx vs H Q=>∃z y,x=.str z/\vs=[.str y]/\0<↥y/\↥z+2<=sizeLine/\∀p,H p=none->Q (.ref p) (upd H p (.lst ((Txt.split z y).map V.str)))
theorem b1y:MtR X "str.split" b6I:=by
 intro bE s σ H x vs v us Q I rx rv h;obtain⟨z,y,rfl,rfl,hy0,hz,q⟩:=h;obtain⟨t,rfl⟩:=rx;obtain⟨u,rfl,tu,rfl⟩:=rv.one;have hy:(↥y==0)=false:=by rw[beq_eq_false_iff_ne];ac_nf
 have cM:∀(l:List (Str×Tok)) (k:Nat),l.map (·.1)=Txt.split z y->EP X bE σ Q (.ref s.heap.objs.size) {s with toks:=k,heap:=s.heap.push {cls:=.type "list",data:=.seq (strValues l).toArray}}:=λl k e=>by
  refine⟨.ref s.heap.objs.size,upd H s.heap.objs.size (.lst ((Txt.split z y).map V.str)),?_,rfl,q _ (I.hok.fresh (aj _))⟩;refine I.laid (t':=k) (λb o e=>Heap.get?_push_of_some _ e) (aj _) ⟨?_,strValues l,0,?_,Heap.get?_push_size _ rfl⟩
  · rw[aa];exact aU (split_le z y) hz
  · rw[←e];exact a4i l
 cases h1:(decide (↥z<↥y)||decide (Builtin.Str.strKind z<Builtin.Str.strKind y))
 · cases hf:(Builtin.Str.occurrences z y 0 ↥z (↥z+1)).isEmpty
   · have es:Txt.split z y=Builtin.Str.partsBetween z (Builtin.Str.occurrences z y 0 ↥z (↥z+1)) ↥y:=(aA (ne_true_of_eq_false h1)).trans (aA (ne_true_of_eq_false hf));refine call_meets PySem.F.slot_str_split (typeIs_str _ _ _) PySem.F.entry_str_split (PySem.F.args_str_split_2 _ _) (meets_str_split_sep z y t tu h1 hy hf nofun (by rw[←es];exact aU (split_le z y) hz)) ?_;show wants _ _ _ {s with toks:=_,heap:=s.heap.push {cls:=.type "list",data:=.seq (strsFrom s.toks (Builtin.Str.partsBetween z (Builtin.Str.occurrences z y 0 ↥z (↥z+1)) ↥y)).toArray}};rw[strsFrom_eq];exact cM (numbered s.toks _) _ ((numbered_texts _ _).trans es.symm)
   · exact call_meets PySem.F.slot_str_split (typeIs_str _ _ _) PySem.F.entry_str_split (PySem.F.args_str_split_2 _ _) (meets_str_split_not_found z y t tu h1 hy hf)
      (cM [(z,t)] s.toks ((aA (ne_true_of_eq_false h1)).trans (az hf)).symm)
 · exact call_meets PySem.F.slot_str_split (typeIs_str _ _ _) PySem.F.entry_str_split (PySem.F.args_str_split_2 _ _) (meets_str_split_cannot_occur z y t tu h1)
    (cM [(z,t)] s.toks (az h1).symm)
def b3X:V->List V->Hp->VK->Prop:=λx vs H Q=>∃z y,x=.str z/\vs=[.str y]/\Q (.bl (Txt.startswith z y)) H
theorem a9H:MtR X "str.startswith" b3X:=by intro bE s σ H x vs v us Q I rx rv h;obtain⟨z,y,rfl,rfl,q⟩:=h;obtain⟨t,rfl⟩:=rx;obtain⟨u,rfl,tu,rfl⟩:=rv.one;exact call_gives PySem.F.slot_str_startswith (typeIs_str _ _ _) PySem.F.entry_str_startswith (PySem.F.args_str_startswith_2 _ _) (gives_str_startswith z y t tu) ⟨.bl _,H,I,rfl,q⟩
def b9v(K:PySem.W.Frag):V->List V->Hp->VK->Prop:=λx vs H Q=>∃z p ts,x=.str z/\vs=[.ref p]/\SqL K H p (ts.map V.str)/\JoinOk z ts=true/\Q (.str (Txt.join z ts)) H
theorem b4E:MtR X "str.join" (b9v X.K):=by intro bE s σ H x vs v us Q I rx rv h;obtain⟨z,p,ts,rfl,rfl,hp,hok,q⟩:=h;obtain⟨t,rfl⟩:=rx;obtain⟨u,rfl,ru⟩:=rv.one;cases ru;obtain⟨bG,r,pl,hz⟩:=I.list hp;obtain⟨l,rfl,e⟩:=a4l r;exact SC.join pl.isList e hok λt' k=>⟨.str _,H,I.tok _,⟨_,rfl⟩,q⟩
theorem a7e:∀{bs:List Bool} {us:List Value},p7 (bs.map V.bl) us->us=bs.map Value.bool
 |[],us,r=>by rw[map_nil] at r;cases r;rfl
 | b::bs,us,r=>by
  rw[map_cons] at r;cases r with
  |cons r1 r2=>
   cases r1;rw[a7e r2];rfl
theorem a9x(bs:List Bool)(p:Bool->Bool):(List.range ↥bs).all (λi=>p (bs.getD i true))=bs.all p:=by
 induction bs with
 |nil=>rfl
 |cons b r ih=>
  rw[length_cons,List.range_succ_eq_map,all_cons,all_map,all_cons,←ih];rfl
theorem a9w(bs:List Bool)(p:Bool->Bool):(List.range ↥bs).any (λi=>p (bs.getD i true))=bs.any p:=by
 induction bs with
 |nil=>rfl
 |cons b r ih=>
  rw[length_cons,List.range_succ_eq_map,any_cons,List.any_map,any_cons,←ih];rfl
theorem a4L{s:Shared}{p:Addr}{bs:List Bool}(hc:X.calm=true)(I:Inv X bE σ H s)(hp:SqL X.K H p (bs.map V.bl)){E:Value->Shared->Prop}{f:(Nat->Bool)->Bool}
 (hq:∀s',Inv X bE σ H s'->Q (.bool (f λi=>bs.getD i true)) s'):
 wpAny (model X.prog X.w) X.A.in1 (pyIter (.ref p)) (λit di=>∃I fp wr n P St tr,it=.ref I/\Walks X.prog X.w X.A.in1 I fp wr n P St/\St 0 di.heap/\TruthOf X.prog X.w X.A.in1 P tr/\n=↥bs∧
  ∀h' tk,(∀b o,b∉wr->di.heap.get? b=some o->h'.get? b=some o)->Q (.bool (f tr)) {di with heap:=h',toks:=tk}) E s:=by
 obtain⟨bG,r,pl,hz⟩:=I.list hp;have e:=a7e r;subst e;have eR:p≠s.heap.objs.size:=by obtain⟨o,n,e,_⟩:=pl;exact Nat.ne_of_lt (Heap.lt_size e)
 refine wpAny_pyIter_list pl.isList ⟨s.heap.objs.size,_,_,_,_,_,λi=>bs.getD i true,rfl,Walks.list (A:=X.A.in1) (I.ok.hd hc) s.heap.objs.size p eR (bs.map Value.bool).toArray,⟨⟨_,Heap.get?_push_size _ rfl,rfl,rfl⟩,?_⟩,?_,?_,?_⟩
 · exact pl.isList.at λo e=>Heap.get?_push_of_some _ e
 · intro i v s' Q' E' hP hQ;have hP':(bs.map Value.bool).toArray[i]? =some v:=hP;rw[List.getElem?_toArray,ak] at hP';cases q:bs[i]? with
   |none=>rw[q] at hP';cases hP'
   |some b=>
    rw[q] at hP';cases hP';have:bs.getD i true=b:=by rw[bx,q];rfl
    have hQ':Q' b s':=this▸hQ;exact wpAny_truthy_bool hQ'
 · simp
 · intro h' tk k;exact hq _ (I.kept λb o e=>k b o (by
    have:=Nat.ne_of_lt (Heap.lt_size e)
    simpa using this) (Heap.get?_push_of_some _ e))
theorem b3c(hc:X.calm=true):J2 X (.builtin "all") (λxs H Q=>∃(p:Addr) (bs:List Bool),xs=[.ref p]/\SqL X.K H p (bs.map V.bl)/\Q (.bl (bs.all id)) H):=by
 intro bE s σ H xs us Q I r h;obtain⟨p,bs,rfl,hp,q⟩:=h;obtain⟨u,rfl,ru⟩:=V1 r;cases ru;refine call_all_walk (thn (a4L (f:=λtr=>(List.range ↥bs).all tr) (Q:=EP X bE σ Q) hc I hp λs' I'=>⟨.bl (bs.all id),H,I',?_,q⟩) λit s2 zz=>?_)
 · show Value.bool _=Value.bool _;exact congrArg Value.bool (a9x bs id)
 · obtain⟨i,fp,wr,n,P,St,tr,e1,e2,e3,e4,e5,e6⟩:=zz;refine⟨i,fp,wr,n,P,St,tr,e1,e2,e3,e4,?_⟩;subst e5;exact e6
theorem b3b(hc:X.calm=true):J2 X (.builtin "any") (λxs H Q=>∃(p:Addr) (bs:List Bool),xs=[.ref p]/\SqL X.K H p (bs.map V.bl)/\Q (.bl (bs.any id)) H):=by
 intro bE s σ H xs us Q I r h;obtain⟨p,bs,rfl,hp,q⟩:=h;obtain⟨u,rfl,ru⟩:=V1 r;cases ru;refine call_any_walk (thn (a4L (f:=λtr=>(List.range ↥bs).any tr) (Q:=EP X bE σ Q) hc I hp λs' I'=>⟨.bl (bs.any id),H,I',?_,q⟩) λit s2 zz=>?_)
 · show Value.bool _=Value.bool _;exact congrArg Value.bool (a9w bs id)
 · obtain⟨i,fp,wr,n,P,St,tr,e1,e2,e3,e4,e5,e6⟩:=zz;refine⟨i,fp,wr,n,P,St,tr,e1,e2,e3,e4,?_⟩;subst e5;exact e6
theorem a5P:J2 X (.type "int") (λxs H Q=>∃z n,xs=[.str z]/\↥z<=640/\PySem.intText? z=some n/\Q (.int n) H):=by intro bE s σ H xs us Q I r h;obtain⟨z,n,rfl,hz,hn,q⟩:=h;obtain⟨u,rfl,t,rfl⟩:=V1 r;exact PySem.W.KIN.call_text hn hz ⟨.int n,H,I.tok _,⟨_,rfl⟩,q⟩
end
section
variable{s:Shared}
theorem Inv.turnedF{t':Nat}(I:Inv X bE σ H s)(hf:∀b∈fp,a2I X bE H b)(k:∀b u,b∉fp->s.heap.get? b=some u->h'.get? b=some u):Inv X bE σ H {s with heap:=h',toks:=t'}:=by
 have nit:∀b u,H b=some u->b∉fp:=λb u e z=>by rw[(hf b z).1] at e;cases e
 refine I.step (g':=s.gens) (d':=s.drawn) (ch:=fp) (λb hb=>⟨(hf b hb).2.2.2.1,(hf b hb).2.1,(hf b hb).2.2.2.2.1,(hf b hb).2.2.2.2.2⟩) (λb o _ _ hc e _=>k b o hc e) (λb o _ _ hc e _=>⟨o.slots,k b o hc e⟩) (λ_ _ _ _ n=>n)
  (λb o hc e=>⟨o,k b o hc e⟩) (λ_ _ e=>e) (λ_ _ _ e=>e) (λb ps e=>⟨#[],by rw[e];simp⟩) (λm hm=>?_) (λb u e=>?_) I.bare
 · obtain⟨o,es,ep,ho,r⟩:=hm;exact⟨o,es,ep,k _ o (λz=>(hf _ z).2.1 rfl) ho,r⟩
 · refine(I.hok b u e).stay (λc v hc q=>k c v ?_ q) (λ_ q=>q) λ_ _ q=>q;rcases hc with z|z
   · rw[z];exact nit b u e
   · exact nit c _ z
theorem Inv.turnedN{t':Nat}{T:Addr}{o:HO}(I:Inv X bE σ H s)(hf:∀b∈fp,a2I X bE H b)(k:∀b u,b∉fp->s.heap.get? b=some u->h'.get? b=some u)(hT:s.heap.objs.size<=T)(new:D2 X.prog X.w (upd H T o) h' T o):
 Inv X bE σ (upd H T o) {s with heap:=h',toks:=t'}:=by
 have hn:H T=none:=I.hok.fresh hT;have nit:∀b u,H b=some u->b∉fp:=λb u e z=>by rw[(hf b z).1] at e;cases e
 have ne:∀b u,s.heap.get? b=some u->b≠T:=λb u e=>Nat.ne_of_lt (aE (Heap.lt_size e) hT);have up:∀b u,H b=some u->upd H T o b=some u:=λb u e=>by rw[m8 (y9 e hn)];exact e
 refine I.step (g':=s.gens) (d':=s.drawn) (ch:=fp) (λb hb=>⟨(hf b hb).2.2.2.1,(hf b hb).2.1,(hf b hb).2.2.2.2.1,(hf b hb).2.2.2.2.2⟩) (λb u _ _ hc e _=>k b u hc e) (λb u _ _ hc e _=>⟨u.slots,k b u hc e⟩) (λb u _ e n=>by rw[m8 (ne b u e)];exact n)
  (λb u hc e=>⟨u,k b u hc e⟩) (λb xs e=>up b _ e) (λb u xs e=>up b _ e) (λb ps e=>⟨#[],by rw[up b _ e];simp⟩) (λm hm=>?_) (λb u e=>?_) I.bare
 · obtain⟨u,es,ep,ho,r⟩:=hm;exact⟨u,es,ep,k _ u (λz=>(hf _ z).2.1 rfl) ho,r⟩
 · by_cases hb:b=T
   · subst hb;rw[i8] at e;cases e;exact new
   · rw[m8 hb] at e;refine(I.hok b u e).stay (λc v hc q=>k c v ?_ q) (λc q=>up c _ q) λc xs q=>up c _ q;rcases hc with z|z
     · rw[z];exact nit b u e
     · exact nit c _ z
end
noncomputable def Its(x:Str):It:=⟨λi _=>i<x.cps.size,λi H v H'=>H'=H/\∃c,x.cps[i]? =some c/\v=.str ⟨#[c]⟩,λi _=>i=x.cps.size⟩
variable{tg:Expr}
theorem a5Z{K:PySem.W.Frag}{ty:String}(x:Str)(t:Tok)(it:Addr)(hty:["enumerate","zip","dict_itemiterator","dict_reverseitemiterator","odict_iterator","itertools.zip_longest","itertools.pairwise"].contains ty=false)
 (W:∀A:Around,A.handled=none->Walks P w A it [it] [it] x.cps.size (SignAt x) (λi h=>h.IsStrIter it ty x t i))
 (Sf:∀(A:Around) (i:Nat) (s:Shared) (Q:Value->Shared->Prop) (E:Value->Shared->Prop),s.heap.IsStrIter it ty x t i->Q (.ref it) s->wpAny (model P w) A (pyIter (.ref it)) Q E s):Turn P w K tg (Its x) [it] it (λi h=>h.IsStrIter it ty x t i) where
 mem:=by simp
 obj:=λi h st b hb=>by
  have e:b=it:=by simpa using hb
  subst e;obtain⟨o,e,c,d⟩:=st;exact⟨o,e,λv z=>by rw[d] at z;cases z⟩
 keep:=λi h h' st k=>let⟨o,e,r⟩:=st;⟨o,k it ⋯ o e,r⟩
 item:=by intro X hP hw hK hc i bE s σ H E I hf st hg;subst hP hw hK;refine(W X.A (I.ok.hd hc)).item i s _ _ hg st λv h' tk hv eU kk=>?_;obtain⟨c,u,hcx,rfl⟩:=hv;have I1:Inv X bE σ H {s with heap:=h',toks:=tk}:=I.turnedF hf λb o hb e=>kk b o hb e;obtain⟨o,e,hcl,d⟩:=id eU;exact⟨_,rfl,a8P (s:={s with heap:=h',toks:=tk}) e hcl d hty ⟨.str ⟨#[c]⟩,H,I1,⟨u,rfl⟩,⟨rfl,c,hcx,rfl⟩,eU,λb hb=>(hf b hb).1⟩⟩
 done:=by intro X hP hw hK hc i bE s σ H E I hf st hg;subst hP hw hK;have hg':i=x.cps.size:=hg;subst hg';exact(W X.A (I.ok.hd hc)).done s _ _ st λh' tk k=>⟨rfl,I.turnedF (t':=tk) hf λb o hb e=>k b o hb e⟩
 self:=λA i s Q E st h=>Sf A i s Q E st h
variable{tb:TS}
section
def c2g(tl:TE):TI:=λσ H R=>tl σ H λx H1=>∃z,x=.str z/\R (Its z) H1
theorem b6W{l:Expr}{tl:TE}(hl:PE X l tl):PI X tg l (c2g tl):=by
 intro bE s σ H R I h;refine thn (hl bE s σ H _ I h) λv s1 zz=>?_;obtain⟨x,H1,I1,r1,z,e,q⟩:=zz;subst e;obtain⟨t,rfl⟩:=r1;have fp:∀b∈[s1.heap.objs.size],a2I X bE H1 b:=λb hb=>by
  have e:b=s1.heap.objs.size:=by simpa using hb
  subst e;exact I1.fpOk (aj _) (I1.hok.fresh (aj _))
 cases ha:z.cps.all (· <128)
 · exact wpAny_pyIter_wide ha ⟨s1.heap.objs.size,[s1.heap.objs.size],_,_,H1,rfl,I1.kept (t':=s1.toks) λb o e=>Heap.get?_push_of_some _ e,a5Z (ty:="str_iterator") z t _ ∅ (λA hA=>Walks.strWide hA _ z t) (λA i s Q E st h=>wpAny_pyIter_striter_wide st h),
    ⟨_,Heap.get?_push_size _ rfl,rfl,rfl⟩,fp,q⟩
 · exact wpAny_pyIter_ascii ha ⟨s1.heap.objs.size,[s1.heap.objs.size],_,_,H1,rfl,I1.kept (t':=s1.toks) λb o e=>Heap.get?_push_of_some _ e,a5Z (ty:="str_ascii_iterator") z t _ ∅ (λA hA=>Walks.strAscii hA _ z t) (λA i s Q E st h=>wpAny_pyIter_striter_ascii st h),
    ⟨_,Heap.get?_push_size _ rfl,rfl,rfl⟩,fp,q⟩
end
def Ite(K:PySem.W.Frag)(l:Addr):It:=⟨λi H=>∃xs x,SqL K H l xs/\xs[i]? =some x,λi H v H'=>∃T x,H T=none/\v=.ref T/\(∀xs,SqL K H l xs->xs[i]? =some x)/\H'=upd H T (.tup [.int i,x]),λi H=>∃xs,SqL K H l xs/\↥xs<=i⟩
variable{dQ:List Expr}
theorem a9m{k:Nat}(e it l:Addr)(hei:e≠it):
 Turn P w K (.Tuple dQ k pos) (Ite K l) [e,it] e (λi h=>(∃eJ,IsEnum h e it i eJ)/\h.IsListIter it l i) where
 mem:=by simp
 obj :=λi h st b hb=>by
  obtain⟨⟨eJ,he⟩,o,e1,c,d⟩:=st;rcases aH.mp hb with z|z
  · subst z;exact⟨_,he,λv z=>by have z':Data.fields _=Data.cell v:=z;cases z'⟩
  · have z':b=it:=by simpa using z
    subst z';exact⟨o,e1,λv z=>by rw[d] at z;cases z⟩
 keep:=λi h h' st k=>by obtain⟨⟨eJ,he⟩,et⟩:=st;exact⟨⟨eJ,k e ⋯ _ he⟩,et.at λo x=>k it ⋯ o x⟩
 item:=by
  intro X hP hw hK hc i bE s σ H E I hf st hg;subst hP hw hK;obtain⟨⟨eJ,he⟩,et⟩:=st;obtain⟨xs,x,hq,hx⟩:=hg;obtain⟨bG,rv,p,hz⟩:=I.list hq;obtain⟨u,hu,ru⟩:=rv.get hx;have helt:e<s.heap.objs.size:=Heap.lt_size he;refine wpAny_pyNext_enum_item he et p.isList (x:=u) (by simpa using hu) hei λh' ho hit' hT hsz hk=>?_;refine⟨_,rfl,wpAny_letOwnedTupleGo_enum ho λh2 he2 hs2=>?_⟩;have kk:∀b o,b∉[e,it]->s.heap.get? b=some o->h2.get? b=some o:=λb o hb q=>by have h1:b≠e:=λz=>hb (by simp[z]);have h2':b≠it:=λz=>hb (by simp[z]);exact(hs2.2 b h1).trans (hk b o h1 h2' q)
  have hT2:h2.get? s.heap.objs.size=some {cls:=.type "tuple",data:=.seq #[.int i s.toks,u]}:=(hs2.2 _ (Nat.ne_of_gt helt)).trans hT;have I1:Inv X bE σ (upd H s.heap.objs.size (.tup [.int i,x])) {s with heap:=h2,toks:=s.toks+1}:=
   I.turnedN (fp:=[e,it]) hf kk (aj _) ⟨by show 2<=sizeLine;decide,[.int i s.toks,u],.cons ⟨_,rfl⟩ (.cons ru .nil),_,hT2,rfl,rfl,_,rfl⟩
  refine⟨.ref s.heap.objs.size,_,I1,rfl,⟨s.heap.objs.size,x,I.hok.fresh (aj _),rfl,λys hy=>by rw[I.list_inj hy hq];exact hx,rfl⟩,⟨⟨_,by simpa using he2⟩,hit'.at λo x=>(hs2.2 it (Ne.symm hei)).trans x⟩,λb hb=>?_⟩;have hbs:b<s.heap.objs.size:=by
   rcases aH.mp hb with z|z
   · rw[z];exact helt
   · have z':b=it:=by simpa using z
     rw[z'];obtain⟨o,e1,_⟩:=et;exact Heap.lt_size e1
  rw[m8 (Nat.ne_of_lt hbs)];exact(hf b hb).1
 done:=by intro X hP hw hK hc i bE s σ H E I hf st hg;subst hP hw hK;obtain⟨⟨eJ,he⟩,et⟩:=st;obtain⟨xs,hq,hx⟩:=hg;obtain⟨bG,rv,p,hz⟩:=I.list hq;have hl:=↥rv;exact wpAny_pyNext_enum_end (I.ok.hd hc) he et p.isList (by simp;ac_nf) λh' eb=>⟨rfl,I.turnedF (t':=s.toks) hf λb o hb q=>eb b o (λz=>hb (by simp[z])) q⟩
 self:=λA i s Q E st h=>by obtain⟨⟨eJ,he⟩,_⟩:=st;exact wpAny_pyIter_enum he h
variable{ta:TA}{p:Pos}
section
variable{k:Nat}{eh:Pos}
def c0d(K:PySem.W.Frag)(ta:TA):TI:=λσ H R=>ta σ H λvs H1=>∃l xs,vs=[.ref l]/\SqL K H1 l xs/\R (Ite K l) H1
theorem b4m{a:Expr}(hg:Gl X "enumerate")(hm:X.mg "enumerate"=none)(ha:PA X [a] ta)(hs:starEach [a] X.env=[(false,eval a X.env)]:=by rfl):
 PI X (.Tuple dQ k eh) (.Call (.Name "enumerate" p) [a] [] pos) (c0d X.K ta):=by
 intro bE s σ H R I h;refine Call_ (a1a I hg hm boot_enumerate (PyProof.Rows.callWith_type1 (thn (ha pos bE s σ H _ I h) λus s1 zz=>?_) hs rfl));obtain⟨vs,H1,I1,r1,q1⟩:=zz;obtain⟨l,xs,e,hq,q⟩:=q1;subst e;obtain⟨u,rfl,ru⟩:=V1 r1;cases ru;obtain⟨bG,rv,pl,hz⟩:=I1.list hq;refine call_enumerate_list pl.isList λh' he et hsz hk=>?_;have I2:Inv X bE σ H1 {s1 with heap:=h'}:=I1.kept (t':=s1.toks) hk;refine wpAny_pyIter_enum he ⟨s1.heap.objs.size+1,[s1.heap.objs.size+1,s1.heap.objs.size],_,_,H1,rfl,I2,a9m (s1.heap.objs.size+1) s1.heap.objs.size l (Nat.ne_of_gt (aV _)),⟨⟨_,he⟩,et⟩,λb hb=>?_,q⟩;have hb':s1.heap.objs.size<=b:=by
  rcases aH.mp hb with z|z
  · rw[z];exact Nat.le_succ _
  · have z':b=s1.heap.objs.size:=by simpa using z
    rw[z'];exact aj _
 exact I1.fpOk hb' (I1.hok.fresh hb')
end
section
def c1W(K:PySem.W.Frag):List V->Hp->VK->Prop:=λxs H Q=>∃x T t b,xs=[x,.ty T]/\TyOf K H x t/\PySem.W.kitOne K t (.type T)=some b/\Q (.bl b) H
theorem b3a:J2 X (.builtin "isinstance") (c1W X.K):=by intro bE s σ H xs us Q I r h;obtain⟨x,T,t,b,rfl,ty,e,q⟩:=h;obtain⟨u1,u2,rfl,ru1,ru2⟩:=a4k r;cases ru2;exact a9P I ru1 ty e λtk=>⟨.bl b,H,I.tok _,rfl,q⟩
end
def b8Y:TT:=λ_ H Q=>Q true H
theorem b6U:a7h X [] b8Y:=b4i
noncomputable def b8p(sc scope:Scope)(own frees:List Str):Bool:=
 decide (scope.kind=.function)&&scope.names.all (λy=>decide (y.2≠.cell))&&scope.names.all (λy=>decide (y.2=.local->scope.names.lookup y.1=some .local))&&
 scope.names.all (λy=>decide (y.2=.free->sc.names.lookup y.1=some .cell))&&decide ((own++frees).Nodup)&&own.all (λx=>decide (scope.names.lookup x=some .local))&&frees.all (λx=>decide (scope.names.lookup x=some .free))
variable{sc:Scope}
theorem c0Q{own frees:List Str}(h:b8p sc scope own frees=true):CompScope sc scope own frees:=by unfold b8p at h;simp only[ae,bz,bp] at h;obtain⟨⟨⟨⟨⟨⟨a,b⟩,c⟩,d⟩,e⟩,f⟩,g⟩:=h;exact⟨a,b,c,d,e,f,g⟩
variable{cW:Pos}
section
variable{cN:Expr}{ifs:List Expr}{own frees:List Str}{js:List Nat}{wi:TI}{g:TG}{tc:TT}{te:TE}
theorem a4I{s:Shared}{Q:VK}{RR:Value->Addr->Result->Shared->Prop}(dw:X.calm=true)(hi:PI X tg iter wi)(S:CompScope X.env.scope scope own frees)(hj:frees.map some=js.map (X.N[·]?))
 (hg:∀C s₀ H₀ ex,PG (w5 X own frees scope C s₀ H₀ ex) tg g) (hc:∀C s₀ H₀ ex,a7h (w5 X own frees scope C s₀ H₀ ex) ifs tc) (he:∀C s₀ H₀ ex,PE (w5 X own frees scope C s₀ H₀ ex) cN te)
 (I:Inv X bE σ H s) (h:a8h own js wi g tc te σ H Q)
 (cM:∀D C s5 H4 m5,Inv X bE σ H4 s5->s5.heap.Ns C m5->H4 C=none->X.s₀.heap.objs.size<=C->C≠X.env.locals->(∀x c,X.env.cells.lookup x=some c->c≠C)->(∀p∈X.pn++bE,p.1≠C)->Q (.ref D) H4->RR (.ref D) C (.ok .next) s5):
 wpAny (model X.prog X.w) X.A (eval iter X.env) (λv s1=>wpAny (model X.prog X.w) X.A (pyIter v) (λit s2=>wpAny (model X.prog X.w) X.A (newList []) (λbR s3=>
  wpAny (model X.prog X.w) X.A (newFunctionEnv scope X.env.globals (L1 X.env.cells scope.names []) [] X.env.qual none .none (some X.env)) (λcenv s4=>
   codeAny (model X.prog X.w) X.A (.compStart (.ListComp cN [⟨tg,iter,ifs,0⟩] scope pos) 0 it bR {cenv with scope:=relabel scope X.env}) (RR bR cenv.locals) s4) X.xe s3) X.xe s2) X.xe s1) X.xe s:=by
 refine thn (hi bE s σ H _ I h) λv s1 h1=>thn h1 λitv s2 h2=>?_;obtain⟨it,fp,tn,J,H2,e,I2,T,st2,f2,R2⟩:=h2;subst e;have hD:H2 s2.heap.objs.size=none:=I2.hok.fresh (aj _);obtain⟨W,⟨m0,w0⟩,eg⟩:=R2 s2.heap.objs.size hD;have hcells:∀x c,X.env.cells.lookup x=some c->c<s2.heap.objs.size:=λx c e=>by obtain⟨v,z⟩:=I2.cell x c e;exact z.lt
 refine wpAny_newObj_type (wpAny_newFunctionEnv S.nocell (by intro y hy;simp at hy) (λdU em dO=>?_) S.kind)
 dsimp only at em dO⊢
 generalize hHH:s2.heap.push {cls:=.type "list",dict:=none,data:=.seq ([]:List Value).toArray}=HH at em dO⊢;have hC:HH.objs.size=s2.heap.objs.size+1:=by rw[←hHH,Heap.size_push]
 have hCle:s2.heap.objs.size<=HH.objs.size:=by rw[hC];exact Nat.le_succ _
 have hDC:s2.heap.objs.size≠HH.objs.size:=by rw[hC];exact Nat.ne_of_lt (aV _)
 have neC:∀b,b<s2.heap.objs.size->b≠HH.objs.size:=λb hb=>by rw[hC];exact Nat.ne_of_lt (Nat.lt_succ_of_lt hb)
 have eJ:∀b o,s2.heap.get? b=some o->dU.get? b=some o:=λb o e=>dO.extBut b o (neC b (Heap.lt_size e)) (Heap.get?_push_of_some _ (hHH▸Heap.get?_push_of_some _ e));have accAt:dU.get? s2.heap.objs.size=some {cls:=.type "list",dict:=none,data:=.seq ([]:List Value).toArray}:=dO.extBut _ _ hDC (Heap.get?_push_of_some _ (hHH▸Heap.get?_push_size _ rfl));have hfo:∀b∈fp,∃o,s2.heap.get? b=some o:=λb hb=>let⟨o,e,_⟩:=T.obj _ _ st2 b hb;⟨o,e⟩;have hnD:∀b,b<s2.heap.objs.size->upd H2 s2.heap.objs.size (.lst []) b=H2 b:=λb hb=>m8 (Nat.ne_of_lt hb);have hok1:HOk X.prog X.w (upd H2 s2.heap.objs.size (.lst [])) dU:=I2.hok.laid eJ (aj _) ⟨Nat.zero_le _,[],0,.nil,accAt⟩;have I3:∀s3:Shared,s3={s2 with heap:=dU,toks:=s2.toks+↥([]:List (Str×Value))}->Inv (w5 X own frees scope HH.objs.size s2 H2 fp) [] (E9 own js σ) (upd H2 s2.heap.objs.size (.lst [])) s3:=by
  rintro s3 rfl;refine b2X I2 S hj hCle f2 hfo rfl I2.bare eJ (Un.laid eJ (aj _) hD) em ?_ hok1 (λx c e=>?_)
  · rw[m8 (Ne.symm hDC)];exact I2.hok.fresh hCle
  · rw[hnD c (hcells x c e)];exact I2.freeC x c e
 -- what stays true of the iterator's objects
 have stat:∀{H':Hp},(∀b∈fp,H' b=none)->∀b∈fp,a2I (w5 X own frees scope HH.objs.size s2 H2 fp) [] H' b:=fun{H'} hn b hb=>by
  obtain⟨o,q⟩:=hfo b hb;refine⟨hn b hb,neC b (Heap.lt_size q),λhm=>?_,.inl hb,λx c e=>(f2 b hb).2.2.2.2.1 x c (R6 e),λp hp=>absurd (show p∈([]:List (Addr×Obj)) from hp) ⋯⟩;rcases aH.mp (I2.stkSub b hm) with z|z
  · exact(f2 b hb).2.1 z
  · exact(f2 b hb).2.2.1 z
 have loop:∀s3:Shared,s3={s2 with heap:=dU,toks:=s2.toks+↥([]:List (Str×Value))}→
  codeAny (model X.prog X.w) X.A (.compLoop (.ListComp cN [⟨tg,iter,ifs,0⟩] scope pos) 0 (.ref it) (.ref s2.heap.objs.size) (compEnvC scope (L1 X.env.cells scope.names []) HH.objs.size X.env))
   (RR (.ref s2.heap.objs.size) HH.objs.size) s3:=by
  intro s3 ef;refine a5K (λn s'=>∃i ys H',Inv (w5 X own frees scope HH.objs.size s2 H2 fp) [] (E9 own js σ) H' s'/\tn i s'.heap/\(∀b∈fp,H' b=none)/\W i n ys H') ?_ m0
   ⟨0,[],_,I3 s3 ef,T.keep _ _ _ st2 (λb hb o e=>by rw[ef];exact eJ b o e),λb hb=>by obtain⟨o,q⟩:=hfo b hb;rw[hnD b (Heap.lt_size q)];exact(f2 b hb).1,w0⟩
  rintro n s4 ⟨i,ys,H4,I4,st4,fr4,w4⟩;rcases eg i n ys H4 w4 with⟨stop,qn⟩|⟨go,step⟩
  · refine thn (T.done (w5 X own frees scope HH.objs.size s2 H2 fp) rfl rfl rfl dw i [] s4 (E9 own js σ) H4 _ I4 (stat fr4) st4 stop) λr s5 zz=>?_;obtain⟨hr,I5⟩:=zz;subst hr;obtain⟨m5,hn5,_⟩:=I5.loc;have ub:Un (frs X.stack) fp H2 H4 s2.heap s5.heap:=I5.base;refine cM _ _ s5 H4 m5 (I2.call' (ch:=fp) I5.os ub I5.hok I5.bare λb hb=>⟨(f2 b hb).2.2.2.1,(f2 b hb).2.1,(f2 b hb).2.2.2.2.1,(f2 b hb).2.2.2.2.2⟩) hn5 I5.free (aU I2.sz hCle) ?_ ?_ ?_ qn
    · exact Ne.symm (neC _ I2.lt)
    · exact λx c e=>neC c (hcells x c e)
    · exact λp hp=>neC _ (Heap.lt_size (I2.pin p hp).1)
  · refine thn (T.item (w5 X own frees scope HH.objs.size s2 H2 fp) rfl rfl rfl dw i [] s4 (E9 own js σ) H4 _ I4 (stat fr4) st4 go) λr s5 zz=>?_;obtain⟨u,hr,h5⟩:=zz;subst hr;refine thn h5 λ_ s6 zz=>?_;obtain⟨x,H6,I6,r6,y6,st6,fr6⟩:=zz;have I6':=I6.pinned (stat fr6) (T.obj _ _ st6);refine thn (hg _ _ _ _ _ s6 _ H6 x u _ I6' r6 (step x H6 y6)) λ_ s7 zz=>?_;obtain⟨ed,H7,I7,wk7,q7⟩:=zz;refine thn (hc _ _ _ _ _ s7 ed H7 _ I7 q7) λb s8 zz=>?_;obtain⟨H8,I8,q8⟩:=zz;have again:∀{s9:Shared} {H9:Hp} {zs:List V},Inv (w5 X own frees scope HH.objs.size s2 H2 fp) ([]++a3t fp s6.heap) ed H9 s9->(∃m',m'<n/\W (i+1) m' zs H9)→
     ∃m,m<n/\∃i ys H',Inv (w5 X own frees scope HH.objs.size s2 H2 fp) [] (E9 own js σ) H' s9/\tn i s9.heap/\(∀b∈fp,H' b=none)/\W i m ys H':=fun{s9 H9 zs} I9 ⟨m',hm,w9⟩=>by
     refine⟨m',hm,i+1,zs,H9,(I9.weak wk7.1 wk7.2).unpinned,T.keep _ _ _ st6 λb hb o e=>(I9.pin (b,o) (mem_append_right _ (mem_append_right _ (W6 hb e)))).1,λb hb=>?_,w9⟩;obtain⟨o,e,d⟩:=T.obj _ _ st6 b hb;exact(I9.pin (b,o) (mem_append_right _ (mem_append_right _ (W6 hb e)))).2.1
    cases b with
    |false=>
     rw[aA bt] at q8⊢;exact again I8 q8
    | true=>
     rw[az rfl] at q8⊢;refine thn (he _ _ _ _ _ s8 ed H8 _ I8 q8) λy s9 zz=>?_;obtain⟨v9,H9,I9,r9,hD9,hz9,q9⟩:=zz;refine thn (a4w (X:=w5 X own frees scope HH.objs.size s2 H2 fp) _ s9 ed H9 (.ref s2.heap.objs.size) [v9] (.ref s2.heap.objs.size) [y] (λ_ H'=>∃m',m'<n/\W (i+1) m' (ys++[v9]) H') I9 rfl (.cons r9 .nil)
      ⟨_,ys,v9,rfl,rfl,hD9,hz9,q9⟩) λ_ s10 ⟨_,H10,I10,_,q10⟩=>?_
     exact again I10 q10
 exact codeAny_compStart_list (loop _ rfl) (T.self _ 0 _ _ _ (T.keep _ _ _ st2 λb hb o e=>eJ b o e) (loop _ rfl))
theorem a6r(dw:X.calm=true)(hi:PI X tg iter wi)(S:CompScope X.env.scope scope own frees)(hj:frees.map some=js.map (X.N[·]?))
 (hg:∀C s₀ H₀ ex,PG (w5 X own frees scope C s₀ H₀ ex) tg g) (hc:∀C s₀ H₀ ex,a7h (w5 X own frees scope C s₀ H₀ ex) ifs tc) (he:∀C s₀ H₀ ex,PE (w5 X own frees scope C s₀ H₀ ex) cN te)
 (hs:∀x,foldedSetIterable iter X.env x=pure x):PE X (.ListComp cN [⟨tg,iter,ifs,0⟩] scope pos) (a8h own js wi g tc te):=by
 intro bE s σ H Q I h;rw[eval_ListComp];have hcl:closureFor scope X.env=pure (L1 X.env.cells scope.names []):=a0Q λy hy e=>I.ok.has y.1 (.inl (S.out y hy e));refine wpAny_comprehension_free (use:=none) rfl hs hcl S.kind S.locs (a4I dw hi S hj hg hc he I h λD C s5 H4 m5 I5 hn5 c1 c2 c3 c4 c5 q=>?_);exact⟨m5,hn5,λh' dC=>⟨.ref D,H4,I5.turned (t':=s5.toks) (λb o hb e=>(dC.2 b hb).trans e) c1 (Ne.symm (Ne.symm c3)) (.inr c2) c4 c5,rfl,q⟩⟩
theorem b4d{i:Nat}{spos:Pos}(dw:X.calm=true)(hi:PI X tg iter wi)(S:CompScope X.env.scope scope own frees)(hj:frees.map some=js.map (X.N[·]?))
 (hg:∀C s₀ H₀ ex,PG (w5 X own frees scope C s₀ H₀ ex) tg g) (hc:∀C s₀ H₀ ex,a7h (w5 X own frees scope C s₀ H₀ ex) ifs tc) (he:∀C s₀ H₀ ex,PE (w5 X own frees scope C s₀ H₀ ex) cN te)
 (hs:∀x,foldedSetIterable iter X.env x=pure x) (hN:X.N.Nodup) (hix:X.N[i]? =some x) (hx:Loc X.env.scope x) (hf:X.fn x=true∨X.env.scope.names.lookup x=some .local):
 PS X (.Assign [.Name x cW] (.ListComp cN [⟨tg,iter,ifs,0⟩] scope pos) spos) (b6y (a8h own js wi g tc te) (b2n i)):=by
 obtain⟨b,hb⟩:∃b,swapsWith (.ListComp cN [⟨tg,iter,ifs,0⟩] scope pos) (some (.Name x cW)) spos.line X.env=pure b:=⟨_,rfl⟩;cases b with
 |false=>exact b0Z hN hix hx (a6r dw hi S hj hg hc he hs) hb hf
 | true=>
  intro bE s σ H Dn I h;rw[exec_Assign_Name_used _ _ _ _ hb];have hcl:closureFor scope X.env=pure (L1 X.env.cells scope.names []):=a0Q λy hy e=>I.ok.has y.1 (.inl (S.out y hy e));refine wpAny_bind (wpAny_standAt (wpAny_bind ?_));show wpAny _ X.A (do let _←comprehension (.ListComp cN [⟨tg,iter,ifs,0⟩] scope pos) scope X.env _ (newList []) false (eval iter X.env) (some (assign (.Name x cW) X.env))) _ _ s;refine wpAny_bind (wpAny_mono (wpAny_comprehension_free (use:=some (assign (.Name x cW) X.env)) (Q:=λ_ s'=>SP X bE Dn .next s') rfl hs hcl S.kind S.locs
   (a4I dw hi S hj hg hc he I h λD C s5 H4 m5 I5 hn5 c1 c2 c3 c4 c5 q=>?_)) (λ_ s' hq=>wpAny_pure (wpAny_pure hq)) λ_ _ e=>e)
  show wpAny _ X.A (assign (.Name x cW) X.env (.ref D)) _ _ s5;refine wpAny_assign_Name (a4m (v:=.ref D) I5 hN hix hx rfl (λs6 I6 zz=>?_) hf);obtain⟨a,sb,ea⟩:=zz;have hCa:C≠a:=λz=>by
   rcases ea with y|y
   · exact c3 (z.trans y)
   · exact c4 x a y z.symm
  exact⟨m5,hn5.sameBut sb hCa,λh' dC=>⟨_,H4,I6.turned (t':=s6.toks) (λb o hb e=>(dC.2 b hb).trans e) c1 c3 (.inr c2) c4 c5,q⟩⟩
end
def Itz(K:PySem.W.Frag)(l1 l2:Addr):It:=⟨λi H=>∃xs ys x y,SqL K H l1 xs/\SqL K H l2 ys/\xs[i]? =some x/\ys[i]? =some y,
 λi H v H'=>∃T x y,H T=none/\v=.ref T/\(∀xs,SqL K H l1 xs->xs[i]? =some x)/\(∀ys,SqL K H l2 ys->ys[i]? =some y)/\H'=upd H T (.tup [x,y]),
 λi H=>∃xs ys,SqL K H l1 xs/\SqL K H l2 ys/\(↥xs<=i∨↥ys<=i)⟩
theorem b0n{k:Nat}(z TI TO i1 i2 l1 l2:Addr)(D:ZipApart z TI TO i1 i2 l1 l2):
 Turn P w K (.Tuple dQ k pos) (Itz K l1 l2) [z,TI,TO,i1,i2] z (λi h=>IsZip h z TI TO .none/\IsPair h TI (.ref i1) (.ref i2)/\(∃a b,IsPair h TO a b)/\h.IsListIter i1 l1 i/\h.IsListIter i2 l2 i) where
 mem:=by simp
 obj:=λi h st b hb=>by
  obtain⟨hz,cn,⟨a,c,cr⟩,⟨o1,e1,c1,d1⟩,⟨o2,e2,c2,d2⟩⟩:=st;simp only[aH,not_mem_nil,or_false] at hb;rcases hb with rfl|rfl|rfl|rfl|rfl
  · exact⟨_,hz,λv q=>by have q':Data.fields _=Data.cell v:=q;cases q'⟩
  · exact⟨_,cn,λv q=>by have q':Data.seq _ _=Data.cell v:=q;cases q'⟩
  · exact⟨_,cr,λv q=>by have q':Data.seq _ _=Data.cell v:=q;cases q'⟩
  · exact⟨o1,e1,λv q=>by rw[d1] at q;cases q⟩
  · exact⟨o2,e2,λv q=>by rw[d2] at q;cases q⟩
 keep:=λi h h' st k=>by obtain⟨hz,cn,⟨a,c,cr⟩,h1,h2⟩:=st;exact⟨k z ⋯ _ hz,k TI ⋯ _ cn,⟨a,c,k TO ⋯ _ cr⟩,h1.at λo x=>k i1 ⋯ o x,h2.at λo x=>k i2 ⋯ o x⟩
 item:=by
  intro X hP hw hK hc i bE s σ H E I hf st hg;subst hP hw hK;obtain⟨hz,cn,⟨a,c,cr⟩,h1,h2⟩:=st;obtain⟨xs,ys,x,y,hq1,hq2,hx,hy⟩:=hg;obtain⟨bG,rv,p,hz1⟩:=I.list hq1;obtain⟨its',rv',p',hz2⟩:=I.list hq2;obtain⟨u,hu,ru⟩:=rv.get hx;obtain⟨u',hu',ru'⟩:=rv'.get hy;have hzlt:z<s.heap.objs.size:=Heap.lt_size hz;refine wpAny_pyNext_zip_item D hz cn cr h1 h2 p.isList p'.isList (x:=u) (y:=u') (by simpa using hu) (by simpa using hu') λh' a1 a2 a3 a4 a5 a6 hk=>?_;refine⟨_,rfl,wpAny_letOwnedTupleGo_zip a1 λh3 hz3 ef=>?_⟩;have kk:∀b o,b∉[z,TI,TO,i1,i2]->s.heap.get? b=some o->h3.get? b=some o:=λb o hb q=>by have n1:b≠z:=λw=>hb (by simp[w]);exact(ef.2 b n1).trans (hk b o n1 (λw=>hb (by simp[w])) (λw=>hb (by simp[w])) (λw=>hb (by simp[w])) q)
  have hT3:h3.get? s.heap.objs.size=some {cls:=.type "tuple",data:=.seq #[u,u']}:=(ef.2 _ (Nat.ne_of_gt hzlt)).trans a5;have I1:Inv X bE σ (upd H s.heap.objs.size (.tup [x,y])) {s with heap:=h3,toks:=s.toks}:=
   I.turnedN (fp:=[z,TI,TO,i1,i2]) hf kk (aj _) ⟨by show 2<=sizeLine;decide,[u,u'],.cons ru (.cons ru' .nil),_,hT3,rfl,rfl,_,rfl⟩
  refine⟨.ref s.heap.objs.size,_,I1,rfl,⟨s.heap.objs.size,x,y,I.hok.fresh (aj _),rfl,λzs hy=>by rw[I.list_inj hy hq1];exact hx,λzs hy'=>by rw[I.list_inj hy' hq2];exact hy,rfl⟩,
   ⟨hz3,(ef.2 _ D.TIz).trans (hk _ _ D.TIz D.TITO D.TIi1 D.TIi2 cn),⟨_,_,(ef.2 _ D.TOz).trans a2⟩,a3.at λo x=>(ef.2 _ D.i1z).trans x,a4.at λo x=>(ef.2 _ D.i2z).trans x⟩,λb hb=>?_⟩
  have hbs:b<s.heap.objs.size:=by
   obtain⟨o1,e1,_⟩:=h1;obtain⟨o2,e2,_⟩:=h2;simp only[aH,not_mem_nil,or_false] at hb;rcases hb with rfl|rfl|rfl|rfl|rfl
   · exact hzlt
   · exact Heap.lt_size cn
   · exact Heap.lt_size cr
   · exact Heap.lt_size e1
   · exact Heap.lt_size e2
  rw[m8 (Nat.ne_of_lt hbs)];exact(hf b hb).1
 done:=by
  intro X hP hw hK hc i bE s σ H E I hf st hg;subst hP hw hK;obtain⟨hz,cn,⟨a,c,cr⟩,h1,h2⟩:=st;obtain⟨xs,ys,hq1,hq2,hx⟩:=hg;obtain⟨bG,rv,p,hz1⟩:=I.list hq1;obtain⟨its',rv',p',hz2⟩:=I.list hq2;have hl:=↥rv;have hl':=↥rv';refine wpAny_pyNext_zip_end (I.ok.hd hc) D hz cn cr h1 h2 p.isList p'.isList ?_ λh' eb=>⟨rfl,I.turnedF (t':=s.toks) hf λb o hb q=>eb b o (λz=>hb (by simp[z])) (λz=>hb (by simp[z])) (λz=>hb (by simp[z])) (λz=>hb (by simp[z])) q⟩;rcases hx with hx|hx
  · exact .inl (by simp;ac_nf)
  · exact .inr (by simp;ac_nf)
 self:=λA i s Q E st h=>wpAny_pyIter_zip st.1 h
section
variable{k:Nat}{eh:Pos}
def c2e(K:PySem.W.Frag)(ta:TA):TI:=λσ H R=>ta σ H λvs H1=>∃l1 l2 xs ys,vs=[.ref l1,.ref l2]/\SqL K H1 l1 xs/\SqL K H1 l2 ys/\R (Itz K l1 l2) H1
end
noncomputable def G0(n:Nat)(x:Str):Str:=⟨(List.replicate n x.cps).foldl (· ++ ·) #[]⟩
theorem a4B(x:Array Nat):∀(n:Nat) (a:Array Nat),((List.replicate n x).foldl (· ++ ·) a).toList=a.toList++(List.replicate n x.toList).flatten
 |0,a=>by simp
 |n+1,a=>by rw[replicate_succ,foldl_cons,a4B x n,replicate_succ,List.flatten_cons];simp
theorem a6d(n:Nat)(x:Str):(G0 n x).cps.toList=(List.replicate n x.cps.toList).flatten:=by unfold G0;rw[a4B];simp
theorem a3f(n:Nat)(x:Str):↥(G0 n x)=↥x*n:=by show(G0 n x).cps.size=x.cps.size*n;rw[←Array.length_toList,a6d];simp[List.length_flatten,Nat.mul_comm]
theorem a7r(x:Str):G0 1 x=x:=by unfold G0;simp
theorem a7s(n:Nat)(x:Str)(h:↥x=0):G0 n x=x:=by
 have h1:(G0 n x).cps.size=0:=by have:=a3f n x;rw[h,Nat.zero_mul] at this;exact this
 have h2:x.cps.size=0:=h;have e1:=Array.eq_empty_of_size_eq_zero h1;have e2:=Array.eq_empty_of_size_eq_zero h2;cases x;simp only at e2;subst e2;generalize hq:G0 n ⟨#[]⟩=q at e1;cases q;simp only at e1;rw[e1]
variable{us:List Value}
section
def b9u:R2:=λx y H Q=>∃t k,x=.str t/\y=.int k/\ -(2^63)<=k/\k<2^63/\↥t*k.toNat<=sizeLine/\Q (.str (G0 k.toNat t)) H
theorem b4u:OpR X (binaryOp .Mult) b9u:=by
 intro bE s σ H x y v u Q I rx ry h;obtain⟨t,k,rfl,rfl,h1,h2,h3,q⟩:=h;obtain⟨a,rfl⟩:=rx;obtain⟨b,rfl⟩:=ry;refine P.mul_str ?_ ?_ ?_ ?_
 · rw[bA nofun,bA nofun];rfl
 · intro h4 h5 h6;have hk:0<k:=by ac_nf
   have h8:(↥t:Int)*k<=2^62:=by have h9:((↥t*k.toNat:Nat):Int)<=((sizeLine:Nat):Int):=Int.ofNat_le.mpr h3;rw[Int.natCast_mul,Int.toNat_of_nonneg nofun,sizeLine_eq] at h9;exact Int.le_trans h9 ∅
   have h7:(↥t:Int)<=(2^63-1)/k:=by rw[Int.le_ediv_iff_mul_le hk];ac_nf
   ac_nf
 · intro h4 h5;simp only[Builtin.Str.tooLong,decide_eq_false_iff_not];ac_nf
 · by_cases c1:k<1
   · rw[az c1];have:k.toNat=0:=by ac_nf
     rw[this] at q;exact⟨Nat.zero_le _,.str _,H,I.tok _,⟨_,rfl⟩,q⟩
   · rw [aA c1]
     by_cases c2:(k==1||↥t==0)=true
     · rw [az c2];have e:G0 k.toNat t=t:=by
        rw[br] at c2;rcases c2 with c|c
        · have:k=1:=by simpa using c
          subst this;exact a7r t
        · exact a7s _ _ (by simpa using c)
       rw[e] at q;exact⟨.str _,H,I,⟨_,rfl⟩,q⟩
     · rw[aA c2];refine⟨?_,.str _,H,I.tok _,⟨_,rfl⟩,q⟩;show(G0 k.toNat t).length<=sizeLine;rw[a3f];exact h3
end
end L2
namespace PySem
open Sem (wp)
theorem a5q:typeLookup (.type "list") "keys"=pure none:=by rw[typeLookup_type,builtinLookup_eq_fast];kernel_rfl
variable{A:Around}{xs:Array Value}
theorem a9J{prog:Program}{w:World}{E:Value->Shared->Prop}{s:Shared}{a:Addr}{o:Obj}{k:Nat}{Q:Option Value->Shared->Prop}
 (hx:s.heap.get? a=some o) (hc:o.cls=.type "list") (eK:o.data=.seq xs k) (hd:o.dict=none) (hA:A.handled=none)
 (h:∀h' tk,(∀b ob,s.heap.get? b=some ob->h'.get? b=some ob)->Q none {s with heap:=h',toks:=tk}):wpAny (model prog w) A (getAttr? (.ref a) "keys") Q E s:=by
 obtain⟨c,dct,dat,sl⟩:=o;simp only at hc eK hd;subst hc eK hd;obtain⟨hp,g,d,tk,os⟩:=s;have hT:∀tk',(⟨hp,g,d,tk',os⟩:Shared).TypeIs (.ref a) "list":=λ_=>⟨_,hx,rfl⟩;have f1:=sub_AttributeError;have f3:=F.slot_list_getattribute.lookup;have f4:=F.slot_list_getattribute.bind (.ref a);have f5:=am_list_getattr_none;unfold getAttr? getAttrBy? getAttrBy
 repeat (any_goals (first|assumption|exact hT _|((with_reducible show wpAny _ _ (call (Value.builtin "list.__getattribute__") _ _) _ _ _);refine call_meets F.slot_list_getattribute (hT _) am_entry_list_getattribute (F.args_list_getattribute_2 _ _) (meets_getattribute_miss_list a xs k sl "keys" _ a5q ∅ ∅) ⟨hx,hA,λh' tk' e ee=>?_⟩)|wp_step))
 obtain⟨t2,u2,he⟩:=ee.there;show wpAny _ _ (getattributeRaised _ _ _ _ _ _ _) _ _ _;unfold getattributeRaised
 repeat (any_goals (first|assumption|wp_step))
 exact h _ _ ee.keeps
open PyProof.Rows
theorem L3:plainId "dict.update.loop"=true:=by decide+kernel
theorem a0n:entryFor table "dict.update.loop"=some Builtin.«dict.update.loop»:=entryFor_of_tree (by kernel_rfl)
variable{a:Value}{b:Value}{l:Addr}{items:Array Value}{Q:Value->Shared->Prop}
section
variable{prog:Program}{w:World}{K:Type}[DecidableEq K]{knd:KeyKind prog w K}
theorem a7w{E:Value->Shared->Prop}{s:Shared}{t:Addr}{Q:List Value->Shared->Prop}(ht:IsTup s.heap t #[a,b])(h:Q [a,b] s):wpAny (model prog w) A (Builtin.Dict.pairItems (.ref t)) Q E s:=by
 obtain⟨o,ho,hc,n,hd⟩:=ht;obtain⟨hp,g,d,tk,os⟩:=s;have hT:(⟨hp,g,d,tk,os⟩:Shared).TypeIs (.ref t) "tuple":=⟨_,ho,hc⟩;unfold Builtin.Dict.pairItems
 repeat (any_goals (first|assumption|wp_step))
 rw[hd];exact wpAny_pure (wpAny_pure h)
theorem b0m{d it:Addr}{ps:List (K×Value)}(n1:d≠it)(n2:d≠l)(n3:it≠l)(hsz:items.size=↥ps)(k:Nat):∀(i:Nat) (bF:List (K×Value)),↥ps-i=k->i<=↥ps->MeetsIn prog w (Builtin.«dict.update.loop» ⟨[.ref d,.ref it,rawInt i,.none],[]⟩)
 (λA R s=>A.handled=none/\s.heap.IsListIter it l i/\s.heap.IsList l items/\s.heap.DictOf knd d bF/\↥bF+(↥ps-i)<=sizeLine∧
  (∀(j:Nat) (p:K×Value),ps[j]? =some p->∃t kv,items[j]? = ~~~t/\t≠d/\t≠it/\IsTup s.heap t #[kv,p.2]/\knd.is p.1 kv=true)∧
  ∀h' tk,h'.DictOf knd d (merged bF (ps.drop i))->(∀b o,b≠d->b≠it->s.heap.get? b=some o->h'.get? b=some o)->R (.ok (.ret .none)) {s with heap:=h',toks:=tk}):=by
 induction k with
 |zero=>
  intro i bF hk hi A R s h;obtain⟨hA,et,hl,hd,hz,hq,h⟩:=h;have hx:items[i]? =none:=by rw[Array.getElem?_eq_none];ac_nf
  have hdr:ps.drop i=[]:=List.drop_eq_nil_of_le nofun;rw[hdr] at h;unfold Builtin.«dict.update.loop»;refine wpAny_bind (wpAny_pyNext_list_end hA et hl hx λh' eb=>?_);refine wpAny_bind ?_;unfold Builtin.Dict.addKeywords;refine wpAny_pure (wpAny_pure (h h' s.toks ?_ λb o n1 n2 e=>eb b o n2 e));exact hd.extBut eb n1
 | succ k ih=>
  intro i bF hk hi A R s h;obtain⟨hA,et,hl,hd,hz,hq,h⟩:=h;have hlt:i<↥ps:=by ac_nf
  obtain⟨t,kv,e1,e2,e3,e4,e5⟩:=hq i ps[i] (ai hlt);have hdr:ps.drop i=ps[i]::ps.drop (i+1):=drop_eq_getElem_cons hlt;unfold Builtin.«dict.update.loop»;refine wpAny_bind (wpAny_pyNext_list_item et hl e1 λh1 st sb=>?_);have k1:∀b o,b≠it->s.heap.get? b=some o->h1.get? b=some o:=λb o n e=>(sb.2 b n).trans e;refine wpAny_bind (wpAny_holding (wpAny_bind (wpAny_tryCatch (a7w (show IsTup h1 t #[kv,ps[i].2] from let⟨o,ho,r⟩:=e4;⟨o,k1 t o e3 ho,r⟩) ?_))));refine wpAny_holding (wpAny_dictSet_pairs (hsz:=by ac_nf) e5 (hd.sameBut sb n1) λh2 dd ej=>?_);have k2:∀b o,b≠d->b≠it->s.heap.get? b=some o->h2.get? b=some o:=λb o n n' e=>(ej.2 b n).trans (k1 b o n' e);refine wpAny_pure ⟨plainId_quiet L3 _,codeAny_builtin a0n (by
   rw[Around.under_plainId L3 _,show((i:Nat):Int)+1=((i+1:Nat):Int) by ac_nf];refine ih (i+1) (stored bF ps[i].1 ps[i].2) nofun nofun A R _ ⟨hA,?_,?_,dd,?_,λj p hj=>?_,λh' tk d1 d2=>?_⟩
   · obtain⟨o,ho,r⟩:=st;exact⟨o,(ej.2 it n1.symm).trans ho,r⟩
   · obtain⟨o,ho,r⟩:=hl;exact⟨o,k2 l o n2.symm n3.symm ho,r⟩
   · have:=stored_length_le bF ps[i].1 ps[i].2;ac_nf
   · obtain⟨t,kv,q1,q2,q3,⟨o,ho,r⟩,q5⟩:=hq j p hj;exact⟨t,kv,q1,q2,q3,⟨o,k2 t o q2 q3 ho,r⟩,q5⟩
   · refine h h' tk ?_ λb o n n' e=>d2 b o n n' (k2 b o n n' e);rw[hdr];exact d1)⟩
theorem a2H{E:Value->Shared->Prop}{s:Shared}{ol:Obj}{n:Nat}{ps:List (K×Value)}(hA:A.handled=none)(hx:s.heap.get? l=some ol)(hc:ol.cls=.type "list")(eK:ol.data=.seq items n)(hd:ol.dict=none)(hsz:items.size=↥ps)(hz:↥ps<=sizeLine)
 (hq:∀(j:Nat) (p:K×Value),ps[j]? =some p->∃t kv,items[j]? = ~~~t/\IsTup s.heap t #[kv,p.2]/\knd.is p.1 kv=true)
 (h:∀h' tk,h'.DictOf knd s.heap.objs.size (merged [] ps)->(∀b o,s.heap.get? b=some o->h'.get? b=some o)->Q (.ref s.heap.objs.size) {s with heap:=h',toks:=tk}):
 wpAny (model prog w) A (call (.type "dict") [.ref l]) Q E s:=by
 refine callType_codes (Q₁:=λobj bM=>obj=.ref s.heap.objs.size/\bM={s with heap:=s.heap.push {cls:=.type "dict",data:=.dict #[]}}) F.kt_called_dict (F.kt_typeCall_dict_1 _) F.entry_dict_init (kt_code_dict_new _ ⟨rfl,rfl⟩) ?_;rintro obj bM ⟨rfl,rfl⟩;have hnew:(s.heap.push {cls:=.type "dict",data:=.dict #[]}).DictOf knd s.heap.objs.size []:=Heap.DictOf.new s.heap;have hx1:(s.heap.push {cls:=.type "dict",data:=.dict #[]}).get? l=some ol:=Heap.get?_push_of_some _ hx;have ty:Shared.TypeIs {s with heap:=s.heap.push {cls:=.type "dict",data:=.dict #[]}} (.ref l) "list":=⟨_,hx1,hc⟩;have nl:s.heap.objs.size≠l:=λe=>absurd (Heap.lt_size hx) (by rw[e];exact aT _);refine⟨hnew.typeIs,F.args_dict_init_2 _ _,?_⟩;unfold Builtin.«dict.__init__»;refine wpAny_bind ?_;unfold Builtin.Dict.selfAndRest;refine wpAny_bind (wpAny_notOrdered_dict hnew.typeIs ?_);show wpAny _ _ (pure (s.heap.objs.size,[Value.ref l])) _ _ _;refine wpAny_pure ?_;show wpAny _ _ (Builtin.Dict.updateFrom "dict.__init__" s.heap.objs.size (.ref l) [] .none) _ _ _;unfold Builtin.Dict.updateFrom;refine wpAny_bind (wpAny_typeOf ty ?_);rw[az ∅];refine wpAny_bind (a9J hx1 hc eK hd ?_ λh1 tk1 k1=>?_)
 · exact hA
 · rw [az (show(none:Option Value).isNone=true from rfl)];have hx2:h1.get? l=some ol:=k1 l _ hx1;have hd2:h1.DictOf knd s.heap.objs.size []:=hnew.keep k1;have lt1:s.heap.objs.size<h1.objs.size:=by obtain⟨o,_,_,ho,_⟩:=hd2;exact Heap.lt_size ho
   refine wpAny_bind (wpAny_rule (wpAny_bind (wpAny_pyIter_list (items:=items) ⟨ol,hx2,hc,n,eK⟩ ?_)));refine wpAny_pure ⟨plainId_quiet L3 _,codeAny_builtin a0n (by
    rw[Around.under_plainId L3 _];refine b0m (knd:=knd) (d:=s.heap.objs.size) (it:=h1.objs.size) (l:=l) (ps:=ps) (Nat.ne_of_lt lt1) nl (λe=>absurd (Heap.lt_size hx2) (by rw[←e];exact aT _)) hsz _ 0 [] rfl (Nat.zero_le _) A.in1 _ _ ⟨hA,⟨_,Heap.get?_push_size _ rfl,rfl,rfl⟩,⟨ol,Heap.get?_push_of_some _ hx2,hc,n,eK⟩,hd2.push _,by simpa using hz,λj p hj=>?_,λh' tk d1 d2=>⟨rfl,?_⟩⟩
    · obtain⟨t,kv,q1,⟨o,ho,r⟩,q3⟩:=hq j p hj;have ho1:=k1 t o (Heap.get?_push_of_some _ ho);exact⟨t,kv,q1,λe=>absurd (Heap.lt_size ho) (by rw[e];exact aT _),λe=>absurd (Heap.lt_size ho1) (by rw[e];exact aT _),⟨o,Heap.get?_push_of_some _ ho1,r⟩,q3⟩
    · refine h h' tk (by rwa [drop_zero] at d1) λb o e=>d2 b o (λz=>absurd (Heap.lt_size e) (by rw[z];exact aT _)) (λz=>?_) (Heap.get?_push_of_some _ (k1 b o (Heap.get?_push_of_some _ e)));have:=Heap.lt_size (k1 b o (Heap.get?_push_of_some _ e));rw[z] at this;exact absurd this (aT _))⟩
end
end PySem
namespace L2
open PySem PySem.Spec PyProof.Rows
def PrT(H:Hp):List V->List (Key×V)->Prop:=Paired λy p=>∃t,y=.ref t/\H t=some (.tup [kV p.1,p.2])
variable{bE:List (Addr×Obj)}{σ:St}{H:Hp}
section
variable{X:Cx}
theorem b6R{s:Shared}(I:Inv X bE σ H s){ys:List V}{bF:List (Key×V)}(hp:PrT H ys bF):∀{bG:List Value},p7 ys bG->∃ps:List (Key×Value),KV bF ps/\↥ps=↥bG/\∀(j:Nat) (p:Key×Value),ps[j]? =some p->∃t kv,bG[j]? = ~~~t/\IsTup s.heap t #[kv,p.2]/\(z9 X.prog X.w).is p.1 kv=true:=by
 unfold PrT at hp
 induction hp with
 |nil=>
  intro bG r;cases r;exact⟨[],.nil,rfl,λj p h=>by simp at h⟩
 | cons h t ih=>
  intro bG r;obtain- |⟨r,q⟩:=r;obtain⟨ps,k1,k2,k3⟩:=ih q;obtain⟨a,rfl,ha⟩:=h;cases r;obtain⟨_,bG,rv,pa⟩:=I.hok a _ ha;obtain⟨u,w,rfl,ru,dn⟩:=a4k rv;refine⟨(_,w)::ps,.cons ⟨rfl,dn⟩ k1,by rw[length_cons,length_cons,k2],λj p hj=>?_⟩
  cases j with
  |zero=>
   cases hj;exact⟨a,u,rfl,pa.tup,a0a ru⟩
  |succ j=>exact k3 j p hj
theorem a5Q(hc:X.calm=true):J2 X (.type "dict") (λxs H Q=>∃p ys bF,xs=[.ref p]/\SqL X.K H p ys/\PrT H ys bF/\∀d,H d=none->Q (.ref d) (upd H d (.dK (W5 [] bF)))):=by
 intro bE s σ H xs us Q I r h;obtain⟨p,ys,bF,rfl,hq,pr,q⟩:=h;obtain⟨u,rfl,rx⟩:=V1 r;cases rx;obtain⟨bG,rv,pl,hz⟩:=I.list hq;obtain⟨o,n,e,c,hd,dat⟩:=pl;obtain⟨ps,k1,k2,k3⟩:=b6R I pr rv;have l1:=↥rv;have l2:=Paired.length pr;refine a2H (knd:=z9 X.prog X.w) (items:=bG.toArray) (ps:=ps) (I.ok.hd hc) e c dat hd (by simp[k2]) nofun (λj p hj=>?_) λh' tk dd kp=>?_
 · obtain⟨t,kv,q1,q2,q3⟩:=k3 j p hj;exact⟨t,kv,by simpa using q1,q2,q3⟩
 · have hl:=U4 bF [];rw[length_nil] at hl;exact⟨.ref s.heap.objs.size,_,I.laid (t':=tk) (λb o e=>kp b o e) (aj _) (a7V nofun (beq_eq_false_iff_ne.mpr (Nat.ne_of_gt I.big)) (k1.merge .nil) dd),rfl,q _ (I.hok.fresh (aj _))⟩
end
end L2
namespace PySem
open Sem (wp)
abbrev ZAt(h:Heap)(z TI TO:Addr)(f0:Value)(b:Bool):Prop:=
 h.get? z=some {cls:=.type "zip",dict:=none,data:=.fields #[f0,.bool b,.bool false,.ref TI,.ref TO],slots:= #[]}
def a7i(f0:Value):Prop:=f0=.none∨∃T:Addr,f0=rawInt T
variable{z:Addr}{f0:Value}{l1:Addr}{l2:Addr}{k1:Nat}{k2:Nat}{xs:Array Value}{ys:Array Value}{x:Value}{y:Value}{a:Value}{b:Value}{b0:Bool}{Q:Value->Shared->Prop}
section
variable{prog:Program}{w:World}{A:Around}{E:Value->Shared->Prop}{s:Shared}
theorem b0k{a:Addr}{Q:Option Obj->Shared->Prop}(h:Q (s.heap.get? a) s):wpAny (model prog w) A (loadIfAlive a) Q E s:=λ_ _ _=>h
theorem a6M{TI TO:Addr}{b:Bool}{Q:Bool->Shared->Prop}(hz:ZAt s.heap z TI TO f0 b)(hf:a7i f0)(h1:Q true s)(h2:∀h',ZAt h' z TI TO f0 true->Heap.SameBut z s.heap h'->Q false {s with heap:=h'}):wpAny (model prog w) A (Builtin.SmallTypes.ownedTupleIsFree (.ref z)) Q E s:=by
 unfold Builtin.SmallTypes.ownedTupleIsFree;refine wpAny_bind (wpAny_field hz rfl (x:=f0) rfl ?_);rcases hf with rfl|⟨T,rfl⟩
 · exact wpAny_pure h1
 · show wpAny _ _ (loadIfAlive ((T:Int).toNat)>>=_) _ _ _;refine wpAny_bind (b0k ?_);cases s.heap.get? ((T:Int).toNat) with
   |none=>exact wpAny_pure h1
   | some o=>
    refine wpAny_bind (wpAny_field hz rfl (x:=.bool b) rfl ?_);cases b with
    |true=>
     have:Q false {s with heap:=s.heap}:=h2 s.heap hz ⟨rfl,λ_ _=>rfl⟩;exact wpAny_bind (wpAny_pure (wpAny_pure this))
    |false=>
     refine wpAny_bind (wpAny_setField_rec hz ⋯ λh' hz' dC=>wpAny_pure (h2 h' hz' dC))
theorem a9f{TI TO i1 i2:Addr}(D:ZipApart z TI TO i1 i2 l1 l2)(hz:ZAt s.heap z TI TO f0 b0)(hf:a7i f0)(cn:IsPair s.heap TI (.ref i1) (.ref i2))(cr:IsPair s.heap TO a b)
 (h1:s.heap.IsListIter i1 l1 k1) (h2:s.heap.IsListIter i2 l2 k2) (dX:s.heap.IsList l1 xs) (eW:s.heap.IsList l2 ys) (hx:xs[k1]? =some x) (hy:ys[k2]? =some y)
 (hQ:∀h' f1 b1,a7i f1->ZAt h' z TI TO f1 b1->(∃a b,IsPair h' TO a b)->h'.IsListIter i1 l1 (k1+1)->h'.IsListIter i2 l2 (k2+1)->IsPair h' s.heap.objs.size x y->h'.objs.size=s.heap.objs.size+1→
  (∀c o,c≠z->c≠TO->c≠i1->c≠i2->s.heap.get? c=some o->h'.get? c=some o)->Q (.ref s.heap.objs.size) {s with heap:=h'}):
 wpAny (model prog w) A (Builtin.«zip.__next__» ⟨[.ref z],[]⟩) (λcM s'=>∃v,cM=.done (.ret v)/\Q v s') E s:=by
 change wpAny (model prog w) A (field (Value.ref z) 2>>=_) _ E s;refine wpAny_bind (wpAny_field hz rfl (x:=.bool false) rfl ?_);change wpAny (model prog w) A (field (Value.ref z) 3>>=_) _ E s;refine wpAny_bind (wpAny_field hz rfl (x:=.ref TI) rfl (wpAny_bind (wpAny_seqItems cn rfl ?_)));change wpAny (model prog w) A (Builtin.SmallTypes.ownedTupleIsFree (Value.ref z)>>=_) _ E s;refine wpAny_bind (a6M hz hf ?free λh' hz' dC=>?held)
 case held=>
  have n1:h'.IsListIter i1 l1 k1:=h1.extBut dC.extBut D.i1z;have n2:h'.IsListIter i2 l2 k2:=h2.extBut dC.extBut D.i2z;simp only[Bool.false_eq_true,if_false,←Array.forIn_toList,forIn_cons,forIn_nil];refine wpAny_bind (wpAny_bind (wpAny_bind (wpAny_holding ?_)));change wpAny (model prog w) A (Builtin.SmallTypes.nextOf (Value.ref i1)>>=_) _ E _;refine wpAny_bind (wpAny_nextOf_list_item n1 (dX.extBut dC.extBut D.l1z) hx λg1 m1 t1=>wpAny_pure (wpAny_pure ?_));refine wpAny_bind (wpAny_bind (wpAny_holding ?_));change wpAny (model prog w) A (Builtin.SmallTypes.nextOf (Value.ref i2)>>=_) _ E _;refine wpAny_bind (wpAny_nextOf_list_item (n2.extBut t1.extBut D.i12.symm) ((eW.extBut dC.extBut D.l2z).extBut t1.extBut D.l2i1) hy λg2 m2 t2=>wpAny_pure (wpAny_pure (wpAny_pure (wpAny_bind (wpAny_newTuple ?_ (show 2<=sizeLine by decide))))));have sz:g2.objs.size=s.heap.objs.size:=by rw[t2.1,t1.1,dC.1]
  have up:∀c o,c≠z->c≠i1->c≠i2->s.heap.get? c=some o->(g2.push {cls:=.type "tuple",data:=.seq #[x,y]}).get? c=some o:=λc o c1 c2 c3 e=>Heap.get?_push_of_some _ (t2.extBut _ _ c3 (t1.extBut _ _ c2 (dC.extBut _ _ c1 e)));have zz:ZAt (g2.push {cls:=.type "tuple",data:=.seq #[x,y]}) z TI TO f0 true:=Heap.get?_push_of_some _ (t2.extBut _ _ D.i2z.symm (t1.extBut _ _ D.i1z.symm hz'));refine wpAny_pure ⟨_,rfl,?_⟩;change Q (Value.ref g2.objs.size) _;have hp:IsPair (g2.push {cls:=.type "tuple",data:=.seq #[x,y]}) g2.objs.size x y:=Heap.get?_push_size _ rfl;have h8:(g2.push {cls:=.type "tuple",data:=.seq #[x,y]}).objs.size=g2.objs.size+1:=Heap.size_push ..;rw[sz] at hp h8⊢;exact hQ _ f0 true hf zz ⟨a,b,up TO _ D.TOz D.TOi1 D.TOi2 cr⟩ ((m1.extBut t2.extBut D.i12).at λo e=>Heap.get?_push_of_some _ e) (m2.at λo e=>Heap.get?_push_of_some _ e) hp h8 λc o c1 _ c3 c4 e=>up c o c1 c3 c4 e
 case free=>
  simp only[if_true];refine wpAny_bind (wpAny_rule (wpAny_bind (wpAny_field hz rfl (x:=.ref TO) rfl (wpAny_bind (wpAny_setField_rec hz ⋯ λg1 e1 t1=>?_)))));replace e1:ZAt g1 z TI TO .ellipsis b0:=e1;simp only[List.zipIdx_cons,List.zipIdx_nil,forIn_cons,forIn_nil];refine wpAny_bind (wpAny_bind (wpAny_bind (wpAny_onRaise ?_)));change wpAny (model prog w) A (Builtin.SmallTypes.nextOf (Value.ref i1)>>=_) _ _ _;refine wpAny_bind (wpAny_nextOf_list_item (h1.extBut t1.extBut D.i1z) (dX.extBut t1.extBut D.l1z) hx λg2 m2 t2=>wpAny_pure ?_);have o2:IsPair g2 TO a b:=t2.extBut _ _ D.TOi1 (t1.extBut _ _ D.TOz cr);refine wpAny_bind (wpAny_seqItems o2 rfl (wpAny_bind (wpAny_updateSeq_pair o2 λg3 o3 t3=>wpAny_bind (wpAny_letGo (wpAny_pure ?_)))));replace o3:IsPair g3 TO x b:=o3;refine wpAny_bind (wpAny_bind (wpAny_onRaise ?_));change wpAny (model prog w) A (Builtin.SmallTypes.nextOf (Value.ref i2)>>=_) _ _ _;refine wpAny_bind (wpAny_nextOf_list_item (((h2.extBut t1.extBut D.i2z).extBut t2.extBut D.i12.symm).extBut t3.extBut D.TOi2.symm) (((eW.extBut t1.extBut D.l2z).extBut t2.extBut D.l2i1).extBut t3.extBut D.l2TO) hy λg4 m4 t4=>wpAny_pure ?_);have o4:IsPair g4 TO x b:=t4.extBut _ _ D.TOi2 o3;refine wpAny_bind (wpAny_seqItems o4 rfl (wpAny_bind (wpAny_updateSeq_pair o4 λg5 o5 t5=>wpAny_bind (wpAny_letGo (wpAny_pure (wpAny_pure ?_))))));replace o5:IsPair g5 TO x y:=o5;refine wpAny_bind (wpAny_seqItems o5 rfl (wpAny_bind (wpAny_newTuple ?_)));have sz:g5.objs.size=s.heap.objs.size:=by rw[t5.1,t4.1,t3.1,t2.1,t1.1]
  have e5:ZAt g5 z TI TO .ellipsis b0:=t5.extBut _ _ D.TOz.symm (t4.extBut _ _ D.i2z.symm (t3.extBut _ _ D.TOz.symm (t2.extBut _ _ D.i1z.symm e1)));have zl:z<g5.objs.size:=Heap.lt_size e5;change wpAny (model prog w) A (Builtin.SmallTypes.ownedTupleHandOut (Value.ref z) (Value.ref g5.objs.size)>>=_) _ E _;refine wpAny_bind ?_;unfold Builtin.SmallTypes.ownedTupleHandOut;have e6:ZAt (g5.push {cls:=.type "tuple",data:=.seq #[x,y]}) z TI TO .ellipsis b0:=Heap.get?_push_of_some _ e5;refine wpAny_bind (wpAny_setField_rec e6 ⋯ λg7 e7 t7=>?_);replace e7:ZAt g7 z TI TO (rawInt g5.objs.size) b0:=e7;refine wpAny_setField_rec e7 ⋯ λg8 e8 t8=>wpAny_pure ⟨_,rfl,?_⟩;replace e8:ZAt g8 z TI TO (rawInt g5.objs.size) false:=e8;have up:∀c o,c≠z->g5.get? c=some o->g8.get? c=some o:=λc o c1 e=>t8.extBut _ _ c1 (t7.extBut _ _ c1 (Heap.get?_push_of_some _ e));have hp:IsPair g8 g5.objs.size x y:=t8.extBut _ _ (Nat.ne_of_gt zl) (t7.extBut _ _ (Nat.ne_of_gt zl) (Heap.get?_push_size _ rfl));have h8:g8.objs.size=g5.objs.size+1:=by rw[t8.1,t7.1,Heap.size_push]
  change Q (Value.ref g5.objs.size) _;rw[sz] at e8 hp h8⊢;have m5:g5.IsListIter i1 l1 (k1+1):=((m2.extBut t3.extBut D.TOi1.symm).extBut t4.extBut D.i12).extBut t5.extBut D.TOi1.symm;exact hQ _ _ _ (.inr ⟨_,rfl⟩) e8 ⟨x,y,up _ _ D.TOz o5⟩ (m5.at λo e=>up _ o D.i1z e) ((m4.extBut t5.extBut D.TOi2.symm).at λo e=>up _ o D.i2z e) hp h8 λc o c1 c2 c3 c4 e=>up c o c1 (t5.extBut _ _ c2 (t4.extBut _ _ c4 (t3.extBut _ _ c2 (t2.extBut _ _ c3 (t1.extBut _ _ c1 e)))))
theorem b0j{TI TO i1 i2:Addr}{Q:Fin->Shared->Prop}(hh:A.handled=none)(D:ZipApart z TI TO i1 i2 l1 l2)(hz:ZAt s.heap z TI TO f0 b0)(hf:a7i f0)(cn:IsPair s.heap TI (.ref i1) (.ref i2))(cr:IsPair s.heap TO a b)
 (h1:s.heap.IsListIter i1 l1 k1) (h2:s.heap.IsListIter i2 l2 k2) (dX:s.heap.IsList l1 xs) (eW:s.heap.IsList l2 ys) (dl:xs[k1]? =none∨ys[k2]? =none)
 (hE:∀h' e,(∀c o,c≠z->c≠TO->c≠i1->c≠i2->s.heap.get? c=some o->h'.get? c=some o)->(∃o,h'.get? e=some o/\o.cls=.type "StopIteration")->E (.ref e) {s with heap:=h'}):
 wpAny (model prog w) A (Builtin.«zip.__next__» ⟨[.ref z],[]⟩) Q E s:=by
 change wpAny (model prog w) A (field (Value.ref z) 2>>=_) _ E s;refine wpAny_bind (wpAny_field hz rfl (x:=.bool false) rfl ?_);change wpAny (model prog w) A (field (Value.ref z) 3>>=_) _ E s;refine wpAny_bind (wpAny_field hz rfl (x:=.ref TI) rfl (wpAny_bind (wpAny_seqItems cn rfl ?_)));change wpAny (model prog w) A (Builtin.SmallTypes.ownedTupleIsFree (Value.ref z)>>=_) _ E s;refine wpAny_bind (a6M hz hf ?free λh' hz' dC=>?held)
 case held=>
  simp only[Bool.false_eq_true,if_false,←Array.forIn_toList,forIn_cons,forIn_nil];refine wpAny_bind (wpAny_bind (wpAny_bind (wpAny_holding ?_)));change wpAny (model prog w) A (Builtin.SmallTypes.nextOf (Value.ref i1)>>=_) _ E _;cases hx:xs[k1]? with
  |none=>exact wpAny_bind (wpAny_nextOf_list_end hh (h1.extBut dC.extBut D.i1z) (dX.extBut dC.extBut D.l1z) hx λg e t he=>hE g e (λc o c1 _ c3 _ q=>t _ _ c3 (dC.extBut _ _ c1 q)) he)
  |some x=>
   have hy:ys[k2]? =none:=dl.resolve_left (by rw[hx];exact λq=>nomatch q);refine wpAny_bind (wpAny_nextOf_list_item (h1.extBut dC.extBut D.i1z) (dX.extBut dC.extBut D.l1z) hx λg1 m1 t1=>wpAny_pure (wpAny_pure ?_));refine wpAny_bind (wpAny_bind (wpAny_holding ?_));change wpAny (model prog w) A (Builtin.SmallTypes.nextOf (Value.ref i2)>>=_) _ E _;exact wpAny_bind (wpAny_nextOf_list_end hh ((h2.extBut dC.extBut D.i2z).extBut t1.extBut D.i12.symm) ((eW.extBut dC.extBut D.l2z).extBut t1.extBut D.l2i1) hy λg e t he=>hE g e (λc o c1 _ c3 c4 q=>t _ _ c4 (t1.extBut _ _ c3 (dC.extBut _ _ c1 q))) he)
 case free=>
  simp only[if_true];refine wpAny_bind (wpAny_rule (wpAny_bind (wpAny_field hz rfl (x:=.ref TO) rfl (wpAny_bind (wpAny_setField_rec hz ⋯ λg1 e1 t1=>?_)))));replace e1:ZAt g1 z TI TO .ellipsis b0:=e1;simp only[List.zipIdx_cons,List.zipIdx_nil,forIn_cons,forIn_nil];refine wpAny_bind (wpAny_bind (wpAny_bind (wpAny_onRaise ?_)));change wpAny (model prog w) A (Builtin.SmallTypes.nextOf (Value.ref i1)>>=_) _ _ _;cases hx:xs[k1]? with
  |none=>
   refine wpAny_bind (wpAny_nextOf_list_end hh (h1.extBut t1.extBut D.i1z) (dX.extBut t1.extBut D.l1z) hx λg2 e t2 he=>?_);obtain⟨oe,p1,p2⟩:=he;have e2:ZAt g2 z TI TO .ellipsis b0:=t2 _ _ D.i1z.symm e1;have ez:e≠z:=λq=>by subst q;rw[e2] at p1;cases p1;simp at p2
   exact wpAny_setField_rec e2 ⋯ λg3 _ t3=>hE g3 e (λc o c1 _ c3 _ q=>t3.extBut _ _ c1 (t2 _ _ c3 (t1.extBut _ _ c1 q))) ⟨oe,t3.extBut _ _ ez p1,p2⟩
  |some x=>
   have hy:ys[k2]? =none:=dl.resolve_left (by rw[hx];exact λq=>nomatch q);refine wpAny_bind (wpAny_nextOf_list_item (h1.extBut t1.extBut D.i1z) (dX.extBut t1.extBut D.l1z) hx λg2 m2 t2=>wpAny_pure ?_);have o2:IsPair g2 TO a b:=t2.extBut _ _ D.TOi1 (t1.extBut _ _ D.TOz cr);refine wpAny_bind (wpAny_seqItems o2 rfl (wpAny_bind (wpAny_updateSeq_pair o2 λg3 o3 t3=>wpAny_bind (wpAny_letGo (wpAny_pure ?_)))));refine wpAny_bind (wpAny_bind (wpAny_onRaise ?_));change wpAny (model prog w) A (Builtin.SmallTypes.nextOf (Value.ref i2)>>=_) _ _ _;refine wpAny_bind (wpAny_nextOf_list_end hh (((h2.extBut t1.extBut D.i2z).extBut t2.extBut D.i12.symm).extBut t3.extBut D.TOi2.symm) (((eW.extBut t1.extBut D.l2z).extBut t2.extBut D.l2i1).extBut t3.extBut D.l2TO) hy λg4 e t4 he=>?_);obtain⟨oe,p1,p2⟩:=he;have e4:ZAt g4 z TI TO .ellipsis b0:=t4 _ _ D.i2z.symm (t3.extBut _ _ D.TOz.symm (t2.extBut _ _ D.i1z.symm e1));have ez:e≠z:=λq=>by subst q;rw[e4] at p1;cases p1;simp at p2
   exact wpAny_setField_rec e4 ⋯ λg5 _ t5=>hE g5 e (λc o c1 c2 c3 c4 q=>t5.extBut _ _ c1 (t4 _ _ c4 (t3.extBut _ _ c2 (t2.extBut _ _ c3 (t1.extBut _ _ c1 q))))) ⟨oe,t5.extBut _ _ ez p1,p2⟩
theorem a9G{TI TO i1 i2:Addr}{Q:Option Value->Shared->Prop}(D:ZipApart z TI TO i1 i2 l1 l2)(hz:ZAt s.heap z TI TO f0 b0)(hf:a7i f0)(cn:IsPair s.heap TI (.ref i1) (.ref i2))(cr:IsPair s.heap TO a b)
 (h1:s.heap.IsListIter i1 l1 k1) (h2:s.heap.IsListIter i2 l2 k2) (dX:s.heap.IsList l1 xs) (eW:s.heap.IsList l2 ys) (hx:xs[k1]? =some x) (hy:ys[k2]? =some y)
 (hQ:∀h' f1 b1,a7i f1->ZAt h' z TI TO f1 b1->(∃a b,IsPair h' TO a b)->h'.IsListIter i1 l1 (k1+1)->h'.IsListIter i2 l2 (k2+1)->IsPair h' s.heap.objs.size x y->h'.objs.size=s.heap.objs.size+1→
  (∀c o,c≠z->c≠TO->c≠i1->c≠i2->s.heap.get? c=some o->h'.get? c=some o)->Q (~~~s.heap.objs.size) {s with heap:=h'}):wpAny (model prog w) A (pyNext (.ref z)) Q E s:=by
 have hT:s.TypeIs (.ref z) "zip":=⟨_,hz,rfl⟩;unfold pyNext;exact wpAny_bind (wpAny_attempt (wpAny_callSpecial?_slot (name:=Str.ofString "__next__") hT F.slot_zip_next (wpAny_call_entry F.slot_zip_next hT F.entry_zip_next (a9f D hz hf cn cr h1 h2 dX eW hx hy λh' f1 b1 q0 q1 q2 q3 q4 q5 q6 q7=>wpAny_pure (hQ h' f1 b1 q0 q1 q2 q3 q4 q5 q6 q7)) (F.args_zip_next_1 _))))
theorem a9Y{TI TO i1 i2:Addr}{Q:Option Value->Shared->Prop}(hh:A.handled=none)(D:ZipApart z TI TO i1 i2 l1 l2)(hz:ZAt s.heap z TI TO f0 b0)(hf:a7i f0)(cn:IsPair s.heap TI (.ref i1) (.ref i2))(cr:IsPair s.heap TO a b)
 (h1:s.heap.IsListIter i1 l1 k1) (h2:s.heap.IsListIter i2 l2 k2) (dX:s.heap.IsList l1 xs) (eW:s.heap.IsList l2 ys) (dl:xs[k1]? =none∨ys[k2]? =none)
 (hQ:∀h',(∀c o,c≠z->c≠TO->c≠i1->c≠i2->s.heap.get? c=some o->h'.get? c=some o)->Q none {s with heap:=h'}):wpAny (model prog w) A (pyNext (.ref z)) Q E s:=by
 have hT:s.TypeIs (.ref z) "zip":=⟨_,hz,rfl⟩;unfold pyNext;refine wpAny_bind (wpAny_attempt (wpAny_callSpecial?_slot (name:=Str.ofString "__next__") hT F.slot_zip_next (wpAny_call_entry F.slot_zip_next hT F.entry_zip_next (b0j hh D hz hf cn cr h1 h2 dX eW dl λh' e hk he=>?_) (F.args_zip_next_1 _))));obtain⟨o,ho,hc⟩:=he;exact wpAny_bind (wpAny_isInstance (T:="StopIteration") (b:=true) ⟨o,ho,hc⟩ isSubtype_stop (wpAny_pure (hQ _ hk)))
end
end PySem
namespace L2
open PySem PySem.Spec PyProof.Rows
variable{P:Program}{w:World}{K:PySem.W.Frag}{pos:Pos}
theorem a9k{nm:Str}(z TI TO i1 i2 l1 l2:Addr)(D:ZipApart z TI TO i1 i2 l1 l2):
 Turn P w K (.Name nm pos) (Itz K l1 l2) [z,TI,TO,i1,i2] z (λi h=>(∃f0 b0,a7i f0/\ZAt h z TI TO f0 b0)/\IsPair h TI (.ref i1) (.ref i2)/\(∃a b,IsPair h TO a b)/\h.IsListIter i1 l1 i/\h.IsListIter i2 l2 i) where
 mem:=by simp
 obj:=λi h st b hb=>by
  obtain⟨⟨f0,b0,hf0,hz⟩,cn,⟨a,c,cr⟩,⟨o1,e1,c1,d1⟩,⟨o2,e2,c2,d2⟩⟩:=st;simp only[aH,not_mem_nil,or_false] at hb;rcases hb with rfl|rfl|rfl|rfl|rfl
  · exact⟨_,hz,λv q=>by have q':Data.fields _=Data.cell v:=q;cases q'⟩
  · exact⟨_,cn,λv q=>by have q':Data.seq _ _=Data.cell v:=q;cases q'⟩
  · exact⟨_,cr,λv q=>by have q':Data.seq _ _=Data.cell v:=q;cases q'⟩
  · exact⟨o1,e1,λv q=>by rw[d1] at q;cases q⟩
  · exact⟨o2,e2,λv q=>by rw[d2] at q;cases q⟩
 keep:=λi h h' st k=>by obtain⟨⟨f0,b0,hf0,hz⟩,cn,⟨a,c,cr⟩,h1,h2⟩:=st;exact⟨⟨f0,b0,hf0,k z ⋯ _ hz⟩,k TI ⋯ _ cn,⟨a,c,k TO ⋯ _ cr⟩,h1.at λo x=>k i1 ⋯ o x,h2.at λo x=>k i2 ⋯ o x⟩
 item:=by
  intro X hP hw hK hc i bE s σ H E I hf st hg;subst hP hw hK;obtain⟨⟨f0,b0,hf0,hz⟩,cn,⟨a,c,cr⟩,h1,h2⟩:=st;obtain⟨xs,ys,x,y,hq1,hq2,hx,hy⟩:=hg;obtain⟨bG,rv,p,hz1⟩:=I.list hq1;obtain⟨its',rv',p',hz2⟩:=I.list hq2;obtain⟨u,hu,ru⟩:=rv.get hx;obtain⟨u',hu',ru'⟩:=rv'.get hy;have hzlt:z<s.heap.objs.size:=Heap.lt_size hz;refine a9G D hz hf0 cn cr h1 h2 p.isList p'.isList (x:=u) (y:=u') (by simpa using hu) (by simpa using hu') λh3 f1 b1 a0 a1 a2 a3 a4 a5 a6 hk=>?_;refine⟨_,rfl,wpAny_pure ?_⟩;have kk:∀b o,b∉[z,TI,TO,i1,i2]->s.heap.get? b=some o->h3.get? b=some o:=λb o hb q=>by have n1:b≠z:=λw=>hb (by simp[w]);exact(hk b o n1 (λw=>hb (by simp[w])) (λw=>hb (by simp[w])) (λw=>hb (by simp[w])) q)
  have hT3:h3.get? s.heap.objs.size=some {cls:=.type "tuple",data:=.seq #[u,u']}:=a5;have I1:Inv X bE σ (upd H s.heap.objs.size (.tup [x,y])) {s with heap:=h3,toks:=s.toks}:=
   I.turnedN (fp:=[z,TI,TO,i1,i2]) hf kk (aj _) ⟨by show 2<=sizeLine;decide,[u,u'],.cons ru (.cons ru' .nil),_,hT3,rfl,rfl,_,rfl⟩
  refine⟨.ref s.heap.objs.size,_,I1,rfl,⟨s.heap.objs.size,x,y,I.hok.fresh (aj _),rfl,λzs hy=>by rw[I.list_inj hy hq1];exact hx,λzs hy'=>by rw[I.list_inj hy' hq2];exact hy,rfl⟩,
   ⟨⟨f1,b1,a0,a1⟩,hk _ _ D.TIz D.TITO D.TIi1 D.TIi2 cn,a2,a3,a4⟩,λb hb=>?_⟩
  have hbs:b<s.heap.objs.size:=by
   obtain⟨o1,e1,_⟩:=h1;obtain⟨o2,e2,_⟩:=h2;simp only[aH,not_mem_nil,or_false] at hb;rcases hb with rfl|rfl|rfl|rfl|rfl
   · exact hzlt
   · exact Heap.lt_size cn
   · exact Heap.lt_size cr
   · exact Heap.lt_size e1
   · exact Heap.lt_size e2
  rw[m8 (Nat.ne_of_lt hbs)];exact(hf b hb).1
 done:=by
  intro X hP hw hK hc i bE s σ H E I hf st hg;subst hP hw hK;obtain⟨⟨f0,b0,hf0,hz⟩,cn,⟨a,c,cr⟩,h1,h2⟩:=st;obtain⟨xs,ys,hq1,hq2,hx⟩:=hg;obtain⟨bG,rv,p,hz1⟩:=I.list hq1;obtain⟨its',rv',p',hz2⟩:=I.list hq2;have hl:=↥rv;have hl':=↥rv';refine a9Y (I.ok.hd hc) D hz hf0 cn cr h1 h2 p.isList p'.isList ?_ λh' eb=>⟨rfl,I.turnedF (t':=s.toks) hf λb o hb q=>eb b o (λz=>hb (by simp[z])) (λz=>hb (by simp[z])) (λz=>hb (by simp[z])) (λz=>hb (by simp[z])) q⟩;rcases hx with hx|hx
  · exact .inl (by simp;ac_nf)
  · exact .inr (by simp;ac_nf)
 self:=λA i s Q E st h=>by obtain⟨⟨f0,b0,hf0,hz⟩,_⟩:=st;have hT:s.TypeIs (.ref z) "zip":=⟨_,hz,rfl⟩;refine wpAny_pyIter_slot hT F.slot_zip_iter (wpAny_call_entry F.slot_zip_iter hT F.entry_zip_iter ?_ (F.args_zip_iter_1 _));change wpAny (model P w) _ (ret (.ref z)) _ E s;exact wpAny_pure ⟨_,rfl,"zip",_,hT,F.slot_zip_next.lookup,h⟩
variable{ta:TA}{p:Pos}
section
variable{X:Cx}{nm:Str}{eh:Pos}
theorem b4j{a b:Expr}(hg:Gl X "zip")(hm:X.mg "zip"=none)(ha:PA X [a,b] ta)(hs:starEach [a,b] X.env=(false,eval a X.env)::starEach [b] X.env)(hp:(backTo pos (starEach [b] X.env)).any (·.1)=false):
 PI X (.Name nm eh) (.Call (.Name "zip" p) [a,b] [] pos) (c2e X.K ta):=by
 intro bE s σ H R I h;refine Call_ (a1a I hg hm boot_zip (PyProof.Rows.callWith_type1 (thn (ha pos bE s σ H _ I h) λus s1 zz=>?_) hs hp));obtain⟨vs,H1,I1,r1,q1⟩:=zz;obtain⟨l1,l2,xs,ys,e,hq1,hq2,q⟩:=q1;subst e;obtain⟨u,u',rfl,ru,ru'⟩:=a4k r1;cases ru;cases ru';obtain⟨bG,rv,pl,hz⟩:=I1.list hq1;obtain⟨its',rv',pl',hz'⟩:=I1.list hq2;refine call_zip_2 pl.isList pl'.isList λh' a1 a2 a3 a4 a5 a6 hk=>?_;have I2:Inv X bE σ H1 {s1 with heap:=h'}:=I1.kept (t':=s1.toks) hk;have lt1:l1<s1.heap.objs.size:=by obtain⟨o,e,_⟩:=pl.isList;exact Heap.lt_size e
 have lt2:l2<s1.heap.objs.size:=by obtain⟨o,e,_⟩:=pl'.isList;exact Heap.lt_size e
 refine wpAny_pyIter_zip a1 ⟨s1.heap.objs.size+4,[s1.heap.objs.size+4,s1.heap.objs.size+2,s1.heap.objs.size+3,s1.heap.objs.size,s1.heap.objs.size+1],_,_,H1,rfl,I2,a9k _ _ _ _ _ l1 l2 (zipApart_new lt1 lt2),⟨⟨.none,false,.inl rfl,a1⟩,a2,⟨_,_,a3⟩,a4,a5⟩,λb hb=>?_,q⟩;have hb':s1.heap.objs.size<=b:=by
  simp only[aH,not_mem_nil,or_false] at hb;rcases hb with rfl|rfl|rfl|rfl|rfl
  · exact Nat.le_add_right _ _
  · exact Nat.le_add_right _ _
  · exact Nat.le_add_right _ _
  · exact aj _
  · exact Nat.le_add_right _ _
 exact I1.fpOk hb' (I1.hok.fresh hb')
end
variable{h:Heap}{a:Addr}
theorem b2j{o:Obj}{vs:Array Value}(f:Array Value->Array Value)(e:h.get? a=some o)(d:o.data=.fields vs):∃o',(h.update a (Obj.mapFields f)).get? a=some o'/\o'.cls=o.cls/\o'.data=.fields (f vs):=by
 refine⟨Obj.mapFields f o,Heap.get?_update_self _ e ?_,?_,?_⟩
 · cases o;subst d;rfl
 · cases o;subst d;rfl
 · cases o;subst d;rfl
variable{prog:Program}{A:Around}{it:Addr}{items:Array Value}{Q:Value->Shared->Prop}
theorem Y0{E:Value->Shared->Prop}{s:Shared}{t:Addr}{i:Nat}{x:Value}(st:s.heap.IsTupleIter it t i)(hl:s.heap.IsTuple t items)(hx:items[i]? =some x)
 (h:∀h':Heap,h'.IsTupleIter it t (i+1)->Heap.SameBut it s.heap h'->Q x {s with heap:=h'}):wpAny (model prog w) A (Builtin.SmallTypes.nextOf (.ref it)) Q E s:=by
 unfold Builtin.SmallTypes.nextOf;refine wpAny_bind (wpAny_callSpecial?_slot st.typeIs slot_tupleiter_next (wpAny_call (codeAny_call_builtin slot_tupleiter_next.plain entry_tupleiter_next (slot_tupleiter_next.check _ _ _ _ _ _ _ _ st.typeIs (args_tupleiter_next _) ?_))));obtain⟨o,e,c,d⟩:=st;obtain⟨o2,e2,c2,n,d2⟩:=hl;refine wpAny_bind (wpAny_pure (a:=(Value.ref it,[])) ?_);refine wpAny_bind (wpAny_field e d rfl ?_);refine wpAny_bind (wpAny_field e d rfl ?_);refine wpAny_bind (wpAny_seqItems e2 d2 ?_);have ee:items[((i:Nat):Int).toNat]? =some x:=hx;simp only[ee];refine wpAny_bind (wpAny_setField e d (show 1<2 by decide) (wpAny_pure ?_));obtain⟨o',e',c',d'⟩:=b2j (λx=>x.setIfInBounds 1 (rawInt (↑i+1))) e d;exact wpAny_pure (h _ ⟨o',e',c'.trans c,d'⟩ (Heap.SameBut.update _ _ _))
variable{α:Type}{M:Model}
theorem b3I{E:Value->Shared->Prop}{s:Shared}{Q:α->Shared->Prop}(hh:A.handled=none)
 (h:∀(h':Heap) (e:Addr),(∀b o,s.heap.get? b=some o->h'.get? b=some o)->(∃o,h'.get? e=some o/\o.cls=Value.type "StopIteration")->E (.ref e) {s with heap:=h'}):wpAny M A (Builtin.SmallTypes.stopIteration (α:=α)) Q E s:=by
 unfold Builtin.SmallTypes.stopIteration newExc;refine wpAny_bind (wpAny_bind (wpAny_newTuple (wpAny_bind (wpAny_pure (a:=Value.none) ?_)) ∅));refine wpAny_bind (wpAny_alloc (wpAny_pure (wpAny_raiseNew_none hh (h _ _ (λb o e=>Heap.get?_push_of_some _ (Heap.get?_push_of_some _ e)) ⟨_,Heap.get?_push_size _ rfl,rfl⟩))))
theorem a3B{E:Value->Shared->Prop}{s:Shared}{t:Addr}{i:Nat}(hh:A.handled=none)(st:s.heap.IsTupleIter it t i)(hl:s.heap.IsTuple t items)(hx:items[i]? =none)
 (h:∀(h':Heap) (e:Addr),Heap.ExtBut it s.heap h'->(∃o,h'.get? e=some o/\o.cls=Value.type "StopIteration")->E (.ref e) {s with heap:=h'}):wpAny (model prog w) A (Builtin.SmallTypes.nextOf (.ref it)) Q E s:=by
 unfold Builtin.SmallTypes.nextOf;refine wpAny_bind (wpAny_callSpecial?_slot st.typeIs slot_tupleiter_next (wpAny_call (codeAny_call_builtin slot_tupleiter_next.plain entry_tupleiter_next (slot_tupleiter_next.check _ _ _ _ _ _ _ _ st.typeIs (args_tupleiter_next _) ?_))));obtain⟨o,e,c,d⟩:=st;obtain⟨o2,e2,c2,n,d2⟩:=hl;refine wpAny_bind (wpAny_pure (a:=(Value.ref it,[])) ?_);refine wpAny_bind (wpAny_field e d rfl ?_);refine wpAny_bind (wpAny_field e d rfl ?_);refine wpAny_bind (wpAny_seqItems e2 d2 ?_);have ee:items[((i:Nat):Int).toNat]? =none:=hx;simp only[ee];refine wpAny_bind (wpAny_rule (wpAny_bind (wpAny_setField e d (show 0<2 by decide) ?_)));exact b3I hh λh' ea k t=>h _ ea (λb o hb q=>k b o (((Heap.SameBut.update _ _ _).2 b hb).trans q)) t
variable{z:Addr}{f0:Value}{v1:Value}
theorem a1G{TI TO:Addr}(v:Value)(e:h.get? z=some {cls:=Value.type "zip",data:=Data.fields #[f0,v1,Value.bool false,Value.ref TI,Value.ref TO]}):
 (h.update z (Obj.mapFields λx=>x.setIfInBounds 0 v)).get? z=some {cls:=Value.type "zip",data:=Data.fields #[v,v1,Value.bool false,Value.ref TI,Value.ref TO]}:=Heap.get?_update_self _ e rfl
theorem b2g{TI TO:Addr}(v:Value)(e:h.get? z=some {cls:=Value.type "zip",data:=Data.fields #[f0,v1,Value.bool false,Value.ref TI,Value.ref TO]}):
 (h.update z (Obj.mapFields λx=>x.setIfInBounds 1 v)).get? z=some {cls:=Value.type "zip",data:=Data.fields #[f0,v,Value.bool false,Value.ref TI,Value.ref TO]}:=Heap.get?_update_self _ e rfl
variable{l1:Addr}{l2:Addr}{k1:Nat}{k2:Nat}{ys:Array Value}
theorem a9e{E:Value->Shared->Prop}{s:Shared}{TI TO i1 i2:Addr}{xs:Array Value}{x y a b:Value}
 (D:ZipApart z TI TO i1 i2 l1 l2) (hz:IsZip s.heap z TI TO .none) (cn:IsPair s.heap TI (.ref i1) (.ref i2)) (cr:IsPair s.heap TO a b) (h1:s.heap.IsTupleIter i1 l1 k1) (h2:s.heap.IsListIter i2 l2 k2) (p1:s.heap.IsTuple l1 xs) (p2:s.heap.IsList l2 ys) (hx:xs[k1]? =some x) (hy:ys[k2]? =some y)
 (h:∀h':Heap,IsZip h' z TI TO (rawInt ↑s.heap.objs.size)->IsPair h' TO x y->h'.IsTupleIter i1 l1 (k1+1)->h'.IsListIter i2 l2 (k2+1)->IsPair h' s.heap.objs.size x y->h'.objs.size=s.heap.objs.size+1->(∀(c:Addr) (o:Obj),c≠z->c≠TO->c≠i1->c≠i2->s.heap.get? c=some o->h'.get? c=some o)->Q (.ref s.heap.objs.size) {s with heap:=h'}):
 wpAny (model prog w) A (Builtin.«zip.__next__» {pos:=[.ref z]}) (λcM s'=>∃v,cM=.done (.ret v)/\Q v s') E s:=by
 unfold Builtin.«zip.__next__»;refine wpAny_bind (wpAny_pure (a:=(Value.ref z,[])) ?_);refine wpAny_bind (wpAny_field hz rfl rfl ?_);refine wpAny_bind (wpAny_field hz rfl rfl ?_);refine wpAny_bind (wpAny_seqItems cn rfl ?_);refine wpAny_bind (wpAny_bind (wpAny_field hz rfl rfl (wpAny_pure ?_)));refine wpAny_bind (wpAny_rule (wpAny_bind (wpAny_field hz rfl rfl ?_)));refine wpAny_bind (wpAny_setField hz rfl (show 0<5 by decide) ?_);have sb1:=Heap.SameBut.update s.heap z (Obj.mapFields λx=>x.setIfInBounds 0 Value.ellipsis);have hz1:=a1G Value.ellipsis hz;generalize s.heap.update z (Obj.mapFields λx=>x.setIfInBounds 0 Value.ellipsis)=g1 at sb1 hz1⊢;have t1:g1.get? TO=_:=(sb1.2 _ D.TOz).trans cr;have i1':=h1.at λo e=>(sb1.2 _ D.i1z).trans e;have i2':=h2.at λo e=>(sb1.2 _ D.i2z).trans e;refine wpAny_bind (wpAny_bind (wpAny_bind (wpAny_onRaise (wpAny_bind (Y0 i1' (p1.at λo e=>(sb1.2 _ D.l1z).trans e) hx λg2 j1 ej=>wpAny_pure ?_)))));have t2:g2.get? TO=_:=(ej.2 _ D.TOi1).trans t1;have hz2:=(ej.2 _ (Ne.symm D.i1z)).trans hz1;refine wpAny_bind (wpAny_seqItems t2 rfl ?_);refine wpAny_bind (wpAny_updateSeq_pair t2 λg3 t3 eV=>?_);refine wpAny_bind (wpAny_letGo (wpAny_pure ?_));have hz3:=(eV.2 _ (Ne.symm D.TOz)).trans hz2;have m1:=j1.at λo e=>(eV.2 _ (Ne.symm D.TOi1)).trans e;have m2:=i2'.at λo e=>(eV.2 _ (Ne.symm D.TOi2)).trans ((ej.2 _ (Ne.symm D.i12)).trans e);refine wpAny_bind (wpAny_bind (wpAny_onRaise (wpAny_bind (wpAny_nextOf_list_item m2 (p2.at λo e=>(eV.2 _ D.l2TO).trans ((ej.2 _ D.l2i1).trans ((sb1.2 _ D.l2z).trans e))) hy λg4 j2 sb4=>wpAny_pure ?_))));have t4:g4.get? TO=some {cls:=.type "tuple",data:=.seq #[x,b]}:=(sb4.2 _ D.TOi2).trans t3;have hz4:=(sb4.2 _ (Ne.symm D.i2z)).trans hz3;have n1:=m1.at λo e=>(sb4.2 _ D.i12).trans e;refine wpAny_bind (wpAny_seqItems t4 rfl ?_);refine wpAny_bind (wpAny_updateSeq_pair t4 λg5 t5 sb5=>?_);refine wpAny_bind (wpAny_letGo (wpAny_pure (wpAny_pure ?_)));have t5':g5.get? TO=some {cls:=.type "tuple",data:=.seq #[x,y]}:=t5;have hz5:=(sb5.2 _ (Ne.symm D.TOz)).trans hz4;have q1:=n1.at λo e=>(sb5.2 _ (Ne.symm D.TOi1)).trans e;have q2:=j2.at λo e=>(sb5.2 _ (Ne.symm D.TOi2)).trans e;refine wpAny_bind (wpAny_seqItems t5' rfl ?_);refine wpAny_bind (wpAny_newTuple ?_ (show 2<=sizeLine by decide));have zs:g5.objs.size=s.heap.objs.size:=by rw[sb5.1,sb4.1,eV.1,ej.1,sb1.1]
 have zlt:z<g5.objs.size:=Heap.lt_size hz5;have hz6:=Heap.get?_push_of_some {cls:=Value.type "tuple",data:=Data.seq #[x,y].toList.toArray} hz5;refine wpAny_bind (wpAny_bind (wpAny_setField hz6 rfl (show 0<5 by decide) (wpAny_setField (a1G _ hz6) rfl (show 1<5 by decide) (wpAny_pure ⟨_,rfl,?_⟩))));have nz:g5.objs.size≠z:=Nat.ne_of_gt zlt;have ot:∀c,c≠z->(((g5.push {cls:=Value.type "tuple",data:=Data.seq #[x,y].toList.toArray}).update z (Obj.mapFields λx=>x.setIfInBounds 0 (rawInt ↑g5.objs.size))).update z (Obj.mapFields λx=>x.setIfInBounds 1 (.bool false))).get? c=(g5.push {cls:=Value.type "tuple",data:=Data.seq #[x,y].toList.toArray}).get? c:=λc hc=>
  ((Heap.SameBut.update _ _ _).2 c hc).trans ((Heap.SameBut.update _ _ _).2 c hc)
 have hz7:=b2g (Value.bool false) (a1G (rawInt ↑g5.objs.size) hz6);have sz7:(((g5.push {cls:=Value.type "tuple",data:=Data.seq #[x,y].toList.toArray}).update z (Obj.mapFields λx=>x.setIfInBounds 0 (rawInt ↑g5.objs.size))).update z (Obj.mapFields λx=>x.setIfInBounds 1 (.bool false))).objs.size=g5.objs.size+1:=by rw[(Heap.SameBut.update _ _ _).1,(Heap.SameBut.update _ _ _).1];exact Array.size_push ..
 have r:=h _ (zs▸hz7) ((ot _ D.TOz).trans (Heap.get?_push_of_some _ t5')) (q1.at λo e=>(ot _ D.i1z).trans (Heap.get?_push_of_some _ e)) (q2.at λo e=>(ot _ D.i2z).trans (Heap.get?_push_of_some _ e)) (by rw[←zs];exact(ot _ nz).trans (Heap.get?_push_size _ rfl)) (by rw[←zs];exact sz7)
  (λc o c1 c2 c3 c4 e=>(ot _ c1).trans (Heap.get?_push_of_some _ ((sb5.2 _ c2).trans ((sb4.2 _ c4).trans ((eV.2 _ c2).trans ((ej.2 _ c3).trans ((sb1.2 _ c1).trans e)))))))
 rw[←zs] at r;exact r
theorem a1X{E:Value->Shared->Prop}{s:Shared}{TI TO i1 i2:Addr}{xs:Array Value}{x y a b:Value}{Q:Option Value->Shared->Prop}
 (D:ZipApart z TI TO i1 i2 l1 l2) (hz:IsZip s.heap z TI TO .none) (cn:IsPair s.heap TI (.ref i1) (.ref i2)) (cr:IsPair s.heap TO a b) (h1:s.heap.IsTupleIter i1 l1 k1) (h2:s.heap.IsListIter i2 l2 k2) (p1:s.heap.IsTuple l1 xs) (p2:s.heap.IsList l2 ys) (hx:xs[k1]? =some x) (hy:ys[k2]? =some y)
 (h:∀h':Heap,IsZip h' z TI TO (rawInt ↑s.heap.objs.size)->IsPair h' TO x y->h'.IsTupleIter i1 l1 (k1+1)->h'.IsListIter i2 l2 (k2+1)->IsPair h' s.heap.objs.size x y->h'.objs.size=s.heap.objs.size+1->(∀(c:Addr) (o:Obj),c≠z->c≠TO->c≠i1->c≠i2->s.heap.get? c=some o->h'.get? c=some o)->Q (~~~s.heap.objs.size) {s with heap:=h'}):
 wpAny (model prog w) A (pyNext (.ref z)) Q E s:=by
 have ti:s.TypeIs (.ref z) "zip":=⟨_,hz,rfl⟩;unfold pyNext;refine wpAny_bind (wpAny_attempt (wpAny_callSpecial?_slot ti PySem.F.slot_zip_next (wpAny_call (codeAny_call_builtin PySem.F.slot_zip_next.plain PySem.F.entry_zip_next (PySem.F.slot_zip_next.check _ _ _ _ _ _ _ _ ti (PySem.F.args_zip_next_1 _) ?_)))));refine wpAny_mono (a9e (E:=λ_ _=>False) (Q:=λv s'=>Q (some v) s') D hz cn cr h1 h2 p1 p2 hx hy h) ?_ ?_
 · rintro cM s' ⟨v,rfl,q⟩;exact wpAny_pure q
 · exact λe s' q=>q.elim
theorem b0i{E:Value->Shared->Prop}{s:Shared}{TI TO i1 i2:Addr}{xs:Array Value}{a b:Value}{Q:Fin->Shared->Prop}(hh:A.handled=none)
 (D:ZipApart z TI TO i1 i2 l1 l2) (hz:IsZip s.heap z TI TO .none) (cn:IsPair s.heap TI (.ref i1) (.ref i2)) (cr:IsPair s.heap TO a b) (h1:s.heap.IsTupleIter i1 l1 k1) (h2:s.heap.IsListIter i2 l2 k2) (p1:s.heap.IsTuple l1 xs) (p2:s.heap.IsList l2 ys) (hn:xs[k1]? =none∨ys[k2]? =none)
 (h:∀(h':Heap) (e:Addr),(∀(c:Addr) (o:Obj),c≠z->c≠TO->c≠i1->c≠i2->s.heap.get? c=some o->h'.get? c=some o)->(∃o,h'.get? e=some o/\o.cls=Value.type "StopIteration")->E (.ref e) {s with heap:=h'}):
 wpAny (model prog w) A (Builtin.«zip.__next__» {pos:=[.ref z]}) Q E s:=by
 unfold Builtin.«zip.__next__»;refine wpAny_bind (wpAny_pure (a:=(Value.ref z,[])) ?_);refine wpAny_bind (wpAny_field hz rfl rfl ?_);refine wpAny_bind (wpAny_field hz rfl rfl ?_);refine wpAny_bind (wpAny_seqItems cn rfl ?_);refine wpAny_bind (wpAny_bind (wpAny_field hz rfl rfl (wpAny_pure ?_)));refine wpAny_bind (wpAny_rule (wpAny_bind (wpAny_field hz rfl rfl ?_)));refine wpAny_bind (wpAny_setField hz rfl (show 0<5 by decide) ?_);have sb1:=Heap.SameBut.update s.heap z (Obj.mapFields λx=>x.setIfInBounds 0 Value.ellipsis);have hz1:=a1G Value.ellipsis hz;generalize s.heap.update z (Obj.mapFields λx=>x.setIfInBounds 0 Value.ellipsis)=g1 at sb1 hz1⊢;have t1:g1.get? TO=_:=(sb1.2 _ D.TOz).trans cr;have i1':=h1.at λo e=>(sb1.2 _ D.i1z).trans e;have i2':=h2.at λo e=>(sb1.2 _ D.i2z).trans e;have pp1:g1.IsTuple l1 xs:=p1.at λo e=>(sb1.2 _ D.l1z).trans e;cases hx:xs[k1]? with
 | none=>
  refine wpAny_bind (wpAny_bind (wpAny_bind (wpAny_onRaise (wpAny_bind (a3B hh i1' pp1 hx λg2 e eb st=>?_)))));have q1:=eb _ _ (Ne.symm D.i1z) hz1;refine wpAny_setField q1 rfl (show 0<5 by decide) (h _ e (λc o c1 c2 c3 c4 q=>((Heap.SameBut.update _ _ _).2 c c1).trans (eb _ _ c3 ((sb1.2 _ c1).trans q))) ?_);obtain⟨o,w1,w2⟩:=st;have ez:e≠z:=by rintro rfl;have q3:=w1.symm.trans q1;injection q3 with q3;subst q3;exact absurd (show Value.type "zip"=Value.type "StopIteration" from w2) ∅
  exact⟨o,((Heap.SameBut.update _ _ _).2 _ ez).trans w1,w2⟩
 | some x=>
  have hy:ys[k2]? =none:=by
   rcases hn with hn|hn
   · rw[hx] at hn;cases hn
   · exact hn
  refine wpAny_bind (wpAny_bind (wpAny_bind (wpAny_onRaise (wpAny_bind (Y0 i1' pp1 hx λg2 j1 ej=>wpAny_pure ?_)))));have t2:g2.get? TO=_:=(ej.2 _ D.TOi1).trans t1;have hz2:=(ej.2 _ (Ne.symm D.i1z)).trans hz1;refine wpAny_bind (wpAny_seqItems t2 rfl ?_);refine wpAny_bind (wpAny_updateSeq_pair t2 λg3 t3 eV=>?_);refine wpAny_bind (wpAny_letGo (wpAny_pure ?_));have hz3:=(eV.2 _ (Ne.symm D.TOz)).trans hz2;have m2:=i2'.at λo e=>(eV.2 _ (Ne.symm D.TOi2)).trans ((ej.2 _ (Ne.symm D.i12)).trans e);refine wpAny_bind (wpAny_bind (wpAny_onRaise (wpAny_bind (wpAny_nextOf_list_end hh m2 (p2.at λo e=>(eV.2 _ D.l2TO).trans ((ej.2 _ D.l2i1).trans ((sb1.2 _ D.l2z).trans e))) hy λg4 e eb st=>?_))));have q1:=eb _ _ (Ne.symm D.i2z) hz3;refine wpAny_setField q1 rfl (show 0<5 by decide) (h _ e (λc o c1 c2 c3 c4 q=>((Heap.SameBut.update _ _ _).2 c c1).trans (eb _ _ c4 ((eV.2 _ c2).trans ((ej.2 _ c3).trans ((sb1.2 _ c1).trans q))))) ?_);obtain⟨o,w1,w2⟩:=st;have ez:e≠z:=by rintro rfl;have q3:=w1.symm.trans q1;injection q3 with q3;subst q3;exact absurd (show Value.type "zip"=Value.type "StopIteration" from w2) ∅
  exact⟨o,((Heap.SameBut.update _ _ _).2 _ ez).trans w1,w2⟩
theorem a2D{E:Value->Shared->Prop}{s:Shared}{TI TO i1 i2:Addr}{xs:Array Value}{a b:Value}{Q:Option Value->Shared->Prop}(hh:A.handled=none)
 (D:ZipApart z TI TO i1 i2 l1 l2) (hz:IsZip s.heap z TI TO .none) (cn:IsPair s.heap TI (.ref i1) (.ref i2)) (cr:IsPair s.heap TO a b) (h1:s.heap.IsTupleIter i1 l1 k1) (h2:s.heap.IsListIter i2 l2 k2) (p1:s.heap.IsTuple l1 xs) (p2:s.heap.IsList l2 ys) (hn:xs[k1]? =none∨ys[k2]? =none)
 (h:∀(h':Heap),(∀(c:Addr) (o:Obj),c≠z->c≠TO->c≠i1->c≠i2->s.heap.get? c=some o->h'.get? c=some o)->Q none {s with heap:=h'}):
 wpAny (model prog w) A (pyNext (.ref z)) Q E s:=by
 have ti:s.TypeIs (.ref z) "zip":=⟨_,hz,rfl⟩;unfold pyNext;refine wpAny_bind (wpAny_attempt (wpAny_callSpecial?_slot ti PySem.F.slot_zip_next (wpAny_call (codeAny_call_builtin PySem.F.slot_zip_next.plain PySem.F.entry_zip_next (PySem.F.slot_zip_next.check _ _ _ _ _ _ _ _ ti (PySem.F.args_zip_next_1 _) ?_)))));refine b0i (A:=A.in1) hh D hz cn cr h1 h2 p1 p2 hn λh' e k st=>?_;exact wpAny_bind (wpAny_isInstance (T:="StopIteration") (b:=true) st rfl (wpAny_pure (h h' k)))
noncomputable def oIt(a:Addr):Obj:={cls:=.type "tuple_iterator",data:=.fields #[.ref a,.int 0 0]}
noncomputable def oIl(a:Addr):Obj:={cls:=.type "list_iterator",data:=.fields #[.ref a,.int 0 0]}
noncomputable def oTp(l:List Value):Obj:={cls:=.type "tuple",data:=.seq l.toArray}
noncomputable def oZp(i j:Nat):Obj:={cls:=.type "zip",data:=.fields #[.none,.bool false,.bool false,.ref i,.ref j]}
def zA(h:Heap)(a:Addr):Heap:=h.push (oIt a)
def zB(h:Heap)(a b:Addr):Heap:=(zA h a).push (oIl b)
def zC(h:Heap)(a b:Addr):Heap:=(zB h a b).push (oTp [.ref h.objs.size,.ref (zA h a).objs.size])
def zD(h:Heap)(a b:Addr):Heap:=(zC h a b).push (oTp [.none,.none])
def zE(h:Heap)(a b:Addr):Heap:=(zD h a b).push (oZp (zB h a b).objs.size (zC h a b).objs.size)
theorem b4D(a b:Addr)(xs ys:Array Value):Meets (Builtin.«zip.__new__» ⟨[.type "zip",.ref a,.ref b],[]⟩) (λ_ R s=>s.heap.IsTuple a xs/\s.heap.IsList b ys/\R (.ok (.ret (.ref (zD s.heap a b).objs.size))) {s with heap:=zE s.heap a b}):=
 .of_wp λprog w A R s h=>by
  obtain⟨u,g,d,tk,os⟩:=s;obtain⟨h1,h2,h⟩:=h;have hsub:=sub_zip;have e1:Heap.IsTuple (Shared.heap ⟨u,g,d,tk,os⟩) a xs:=h1;have e2:Heap.IsList (Shared.heap ⟨u.push {cls:=.type "tuple_iterator",data:=.fields #[.ref a,.int 0 0]},g,d,tk,os⟩) b ys:=h2.at λo e=>Heap.get?_push_of_some _ e
  wp_walk using wpAny_pyIter_tuple e1,wpAny_pyIter_list e2
  exact⟨_,rfl,h⟩
variable{b:Addr}
theorem b3d{E:Value->Shared->Prop}{s:Shared}{xs:Array Value}(h1:s.heap.IsTuple a xs)(h2:s.heap.IsList b ys)
 (h:∀h':Heap,IsZip h' (s.heap.objs.size+4) (s.heap.objs.size+2) (s.heap.objs.size+3) .none->IsPair h' (s.heap.objs.size+2) (.ref s.heap.objs.size) (.ref (s.heap.objs.size+1))->IsPair h' (s.heap.objs.size+3) .none .none->h'.IsTupleIter s.heap.objs.size a 0->h'.IsListIter (s.heap.objs.size+1) b 0->(∀c o,s.heap.get? c=some o->h'.get? c=some o)->Q (.ref (s.heap.objs.size+4)) {s with heap:=h'}):
 wpAny (model prog w) A (call (.type "zip") [.ref a,.ref b]) Q E s:=by
 refine callType_new F.called_zip ∅ (F.typeCall_zip_2 _ _) (F.newCall_zip_2 _ _) (λobj=>F.args_object_init_3 obj _ _) F.entry_zip_new (b4D a b xs ys) ⟨h1,h2,?_⟩;have n1:(zA s.heap a).objs.size=s.heap.objs.size+1:=Heap.size_push ..;have n2:(zB s.heap a b).objs.size=s.heap.objs.size+2:=(Heap.size_push ..).trans (by rw[n1]);have n3:(zC s.heap a b).objs.size=s.heap.objs.size+3:=(Heap.size_push ..).trans (by rw[n2]);have n4:(zD s.heap a b).objs.size=s.heap.objs.size+4:=(Heap.size_push ..).trans (by rw[n3]);have k4:(zE s.heap a b).get? (zD s.heap a b).objs.size=some (oZp (zB s.heap a b).objs.size (zC s.heap a b).objs.size):=Heap.get?_push_size _ rfl;have k3:(zE s.heap a b).get? (zC s.heap a b).objs.size=some (oTp [.none,.none]):=Heap.get?_push_of_some _ (Heap.get?_push_size _ rfl);have k2:(zE s.heap a b).get? (zB s.heap a b).objs.size=some (oTp [.ref s.heap.objs.size,.ref (zA s.heap a).objs.size]):=Heap.get?_push_of_some _ (Heap.get?_push_of_some _ (Heap.get?_push_size _ rfl));have k1:(zE s.heap a b).get? (zA s.heap a).objs.size=some (oIl b):=Heap.get?_push_of_some _ (Heap.get?_push_of_some _ (Heap.get?_push_of_some _ (Heap.get?_push_size _ rfl)));have k0:(zE s.heap a b).get? s.heap.objs.size=some (oIt a):=Heap.get?_push_of_some _ (Heap.get?_push_of_some _ (Heap.get?_push_of_some _ (Heap.get?_push_of_some _ (Heap.get?_push_size _ rfl))));rw[n2,n3,n4] at k4;rw[n3] at k3;rw[n1,n2] at k2;rw[n1] at k1;show _/\_;rw[n4];exact⟨⟨_,k4,rfl⟩,h _ k4 k2 k3 ⟨_,k0,rfl,rfl⟩ ⟨_,k1,rfl,rfl⟩ λc o e=>Heap.get?_push_of_some _ (Heap.get?_push_of_some _ (Heap.get?_push_of_some _ (Heap.get?_push_of_some _ (Heap.get?_push_of_some _ e))))⟩
def b8R(K:PySem.W.Frag)(l1 l2:Addr):It:=⟨λi H=>∃xs ys x y,SqT K H l1 xs/\SqL K H l2 ys/\xs[i]? =some x/\ys[i]? =some y,
 λi H v H'=>∃T x y,H T=none/\v=.ref T/\(∀xs,SqT K H l1 xs->xs[i]? =some x)/\(∀ys,SqL K H l2 ys->ys[i]? =some y)/\H'=upd H T (.tup [x,y]),
 λi H=>∃xs ys,SqT K H l1 xs/\SqL K H l2 ys/\(↥xs<=i∨↥ys<=i)⟩
variable{dQ:List Expr}
theorem a9j{k:Nat}(z TI TO i1 i2 l1 l2:Addr)(D:ZipApart z TI TO i1 i2 l1 l2):
 Turn P w K (.Tuple dQ k pos) (b8R K l1 l2) [z,TI,TO,i1,i2] z (λi h=>IsZip h z TI TO .none/\IsPair h TI (.ref i1) (.ref i2)/\(∃a b,IsPair h TO a b)/\h.IsTupleIter i1 l1 i/\h.IsListIter i2 l2 i) where
 mem:=by simp
 obj:=λi h st b hb=>by
  obtain⟨hz,cn,⟨a,c,cr⟩,⟨o1,e1,c1,d1⟩,⟨o2,e2,c2,d2⟩⟩:=st;simp only[aH,not_mem_nil,or_false] at hb;rcases hb with rfl|rfl|rfl|rfl|rfl
  · exact⟨_,hz,λv q=>by have q':Data.fields _=Data.cell v:=q;cases q'⟩
  · exact⟨_,cn,λv q=>by have q':Data.seq _ _=Data.cell v:=q;cases q'⟩
  · exact⟨_,cr,λv q=>by have q':Data.seq _ _=Data.cell v:=q;cases q'⟩
  · exact⟨o1,e1,λv q=>by rw[d1] at q;cases q⟩
  · exact⟨o2,e2,λv q=>by rw[d2] at q;cases q⟩
 keep:=λi h h' st k=>by obtain⟨hz,cn,⟨a,c,cr⟩,h1,h2⟩:=st;exact⟨k z ⋯ _ hz,k TI ⋯ _ cn,⟨a,c,k TO ⋯ _ cr⟩,h1.at λo x=>k i1 ⋯ o x,h2.at λo x=>k i2 ⋯ o x⟩
 item:=by
  intro X hP hw hK hc i bE s σ H E I hf st hg;subst hP hw hK;obtain⟨hz,cn,⟨a,c,cr⟩,h1,h2⟩:=st;obtain⟨xs,ys,x,y,hq1,hq2,hx,hy⟩:=hg;obtain⟨bG,rv,p,hz1⟩:=I.tuple hq1;obtain⟨its',rv',p',hz2⟩:=I.list hq2;obtain⟨u,hu,ru⟩:=rv.get hx;obtain⟨u',hu',ru'⟩:=rv'.get hy;have hzlt:z<s.heap.objs.size:=Heap.lt_size hz;refine a1X D hz cn cr h1 h2 (show s.heap.IsTuple l1 bG.toArray from p) p'.isList (x:=u) (y:=u') (by simpa using hu) (by simpa using hu') λh' a1 a2 a3 a4 a5 a6 hk=>?_;refine⟨_,rfl,wpAny_letOwnedTupleGo_zip a1 λh3 hz3 ef=>?_⟩;have kk:∀b o,b∉[z,TI,TO,i1,i2]->s.heap.get? b=some o->h3.get? b=some o:=λb o hb q=>by have n1:b≠z:=λw=>hb (by simp[w]);exact(ef.2 b n1).trans (hk b o n1 (λw=>hb (by simp[w])) (λw=>hb (by simp[w])) (λw=>hb (by simp[w])) q)
  have hT3:h3.get? s.heap.objs.size=some {cls:=.type "tuple",data:=.seq #[u,u']}:=(ef.2 _ (Nat.ne_of_gt hzlt)).trans a5;have I1:Inv X bE σ (upd H s.heap.objs.size (.tup [x,y])) {s with heap:=h3,toks:=s.toks}:=
   I.turnedN (fp:=[z,TI,TO,i1,i2]) hf kk (aj _) ⟨by show 2<=sizeLine;decide,[u,u'],.cons ru (.cons ru' .nil),_,hT3,rfl,rfl,_,rfl⟩
  refine⟨.ref s.heap.objs.size,_,I1,rfl,⟨s.heap.objs.size,x,y,I.hok.fresh (aj _),rfl,λzs hy=>by rw[I.tuple_inj hy hq1];exact hx,λzs hy'=>by rw[I.list_inj hy' hq2];exact hy,rfl⟩,
   ⟨hz3,(ef.2 _ D.TIz).trans (hk _ _ D.TIz D.TITO D.TIi1 D.TIi2 cn),⟨_,_,(ef.2 _ D.TOz).trans a2⟩,a3.at λo x=>(ef.2 _ D.i1z).trans x,a4.at λo x=>(ef.2 _ D.i2z).trans x⟩,λb hb=>?_⟩
  have hbs:b<s.heap.objs.size:=by
   obtain⟨o1,e1,_⟩:=h1;obtain⟨o2,e2,_⟩:=h2;simp only[aH,not_mem_nil,or_false] at hb;rcases hb with rfl|rfl|rfl|rfl|rfl
   · exact hzlt
   · exact Heap.lt_size cn
   · exact Heap.lt_size cr
   · exact Heap.lt_size e1
   · exact Heap.lt_size e2
  rw[m8 (Nat.ne_of_lt hbs)];exact(hf b hb).1
 done:=by
  intro X hP hw hK hc i bE s σ H E I hf st hg;subst hP hw hK;obtain⟨hz,cn,⟨a,c,cr⟩,h1,h2⟩:=st;obtain⟨xs,ys,hq1,hq2,hx⟩:=hg;obtain⟨bG,rv,p,hz1⟩:=I.tuple hq1;obtain⟨its',rv',p',hz2⟩:=I.list hq2;have hl:=↥rv;have hl':=↥rv';refine a2D (I.ok.hd hc) D hz cn cr h1 h2 (show s.heap.IsTuple l1 bG.toArray from p) p'.isList ?_ λh' eb=>⟨rfl,I.turnedF (t':=s.toks) hf λb o hb q=>eb b o (λz=>hb (by simp[z])) (λz=>hb (by simp[z])) (λz=>hb (by simp[z])) (λz=>hb (by simp[z])) q⟩;rcases hx with hx|hx
  · exact .inl (by simp;ac_nf)
  · exact .inr (by simp;ac_nf)
 self:=λA i s Q E st h=>wpAny_pyIter_zip st.1 h
section
variable{X:Cx}{k:Nat}{eh:Pos}
def c0a(K:PySem.W.Frag)(ta:TA):TI:=λσ H R=>ta σ H λvs H1=>∃l1 l2 xs ys,vs=[.ref l1,.ref l2]/\((SqL K H1 l1 xs/\SqL K H1 l2 ys/\R (Itz K l1 l2) H1)∨(SqT K H1 l1 xs/\SqL K H1 l2 ys/\R (b8R K l1 l2) H1))
theorem b4k{a b:Expr}(hg:Gl X "zip")(hm:X.mg "zip"=none)(ha:PA X [a,b] ta)(hs:starEach [a,b] X.env=(false,eval a X.env)::starEach [b] X.env)(hp:(backTo pos (starEach [b] X.env)).any (·.1)=false):
 PI X (.Tuple dQ k eh) (.Call (.Name "zip" p) [a,b] [] pos) (c0a X.K ta):=by
 intro bE s σ H R I h;refine Call_ (a1a I hg hm boot_zip (PyProof.Rows.callWith_type1 (thn (ha pos bE s σ H _ I h) λus s1 zz=>?_) hs hp));obtain⟨vs,H1,I1,r1,q1⟩:=zz;obtain⟨l1,l2,xs,ys,e,⟨hq1,hq2,q⟩|⟨hq1,hq2,q⟩⟩:=q1<;>subst e
 · obtain⟨u,u',rfl,ru,ru'⟩:=a4k r1;cases ru;cases ru';obtain⟨bG,rv,pl,hz⟩:=I1.list hq1;obtain⟨its',rv',pl',hz'⟩:=I1.list hq2;refine call_zip_2 pl.isList pl'.isList λh' a1 a2 a3 a4 a5 a6 hk=>?_;have I2:Inv X bE σ H1 {s1 with heap:=h'}:=I1.kept (t':=s1.toks) hk;have lt1:l1<s1.heap.objs.size:=by obtain⟨o,e,_⟩:=pl.isList;exact Heap.lt_size e
   have lt2:l2<s1.heap.objs.size:=by obtain⟨o,e,_⟩:=pl'.isList;exact Heap.lt_size e
   refine wpAny_pyIter_zip a1 ⟨s1.heap.objs.size+4,[s1.heap.objs.size+4,s1.heap.objs.size+2,s1.heap.objs.size+3,s1.heap.objs.size,s1.heap.objs.size+1],_,_,H1,rfl,I2,b0n _ _ _ _ _ l1 l2 (zipApart_new lt1 lt2),⟨a1,a2,⟨_,_,a3⟩,a4,a5⟩,λb hb=>?_,q⟩;have hb':s1.heap.objs.size<=b:=by
    simp only[aH,not_mem_nil,or_false] at hb;rcases hb with rfl|rfl|rfl|rfl|rfl
    · exact Nat.le_add_right _ _
    · exact Nat.le_add_right _ _
    · exact Nat.le_add_right _ _
    · exact aj _
    · exact Nat.le_add_right _ _
   exact I1.fpOk hb' (I1.hok.fresh hb')
 · obtain⟨u,u',rfl,ru,ru'⟩:=a4k r1;cases ru;cases ru';obtain⟨bG,rv,pl,hz⟩:=I1.tuple hq1;obtain⟨its',rv',pl',hz'⟩:=I1.list hq2;refine b3d (show s1.heap.IsTuple l1 bG.toArray from pl) pl'.isList λh' a1 a2 a3 a4 a5 hk=>?_;have I2:Inv X bE σ H1 {s1 with heap:=h'}:=I1.kept (t':=s1.toks) hk;have lt1:l1<s1.heap.objs.size:=by obtain⟨o,e,_⟩:=pl;exact Heap.lt_size e
   have lt2:l2<s1.heap.objs.size:=by obtain⟨o,e,_⟩:=pl'.isList;exact Heap.lt_size e
   refine wpAny_pyIter_zip a1 ⟨s1.heap.objs.size+4,[s1.heap.objs.size+4,s1.heap.objs.size+2,s1.heap.objs.size+3,s1.heap.objs.size,s1.heap.objs.size+1],_,_,H1,rfl,I2,a9j _ _ _ _ _ l1 l2 (zipApart_new lt1 lt2),⟨a1,a2,⟨_,_,a3⟩,a4,a5⟩,λb hb=>?_,q⟩;have hb':s1.heap.objs.size<=b:=by
    simp only[aH,not_mem_nil,or_false] at hb;rcases hb with rfl|rfl|rfl|rfl|rfl
    · exact Nat.le_add_right _ _
    · exact Nat.le_add_right _ _
    · exact Nat.le_add_right _ _
    · exact aj _
    · exact Nat.le_add_right _ _
   exact I1.fpOk hb' (I1.hok.fresh hb')
end
end L2
namespace EV
open PySem L2
inductive D where
 |non|bl (b:Bool)|int (i:Int)|str (x:Str)|tup (l:List D)|ref (n:Nat)
 deriving Inhabited
mutual
def D.dec:(a b:D)->Decidable (a=b)
  | .non,b=>match b with
    |.non=>Decidable.isTrue rfl
    |.bl _=>Decidable.isFalse (λh=>nomatch h)|.int _=>Decidable.isFalse (λh=>nomatch h)|.str _=>Decidable.isFalse (λh=>nomatch h)|.tup _=>Decidable.isFalse (λh=>nomatch h)|.ref _=>Decidable.isFalse (λh=>nomatch h)
  | .bl x,b=>match b with
    |.bl y=>if h:x=y then Decidable.isTrue (by rw[h]) else Decidable.isFalse (λe=>h (by injection e))
    |.non=>Decidable.isFalse (λh=>nomatch h)|.int _=>Decidable.isFalse (λh=>nomatch h)|.str _=>Decidable.isFalse (λh=>nomatch h)|.tup _=>Decidable.isFalse (λh=>nomatch h)|.ref _=>Decidable.isFalse (λh=>nomatch h)
  | .int x,b=>match b with
    |.int y=>if h:x=y then Decidable.isTrue (by rw[h]) else Decidable.isFalse (λe=>h (by injection e))
    |.non=>Decidable.isFalse (λh=>nomatch h)|.bl _=>Decidable.isFalse (λh=>nomatch h)|.str _=>Decidable.isFalse (λh=>nomatch h)|.tup _=>Decidable.isFalse (λh=>nomatch h)|.ref _=>Decidable.isFalse (λh=>nomatch h)
  | .str x,b=>match b with
    |.str y=>if h:x=y then Decidable.isTrue (by rw[h]) else Decidable.isFalse (λe=>h (by injection e))
    |.non=>Decidable.isFalse (λh=>nomatch h)|.bl _=>Decidable.isFalse (λh=>nomatch h)|.int _=>Decidable.isFalse (λh=>nomatch h)|.tup _=>Decidable.isFalse (λh=>nomatch h)|.ref _=>Decidable.isFalse (λh=>nomatch h)
  | .tup x,b=>match b with
    | .tup y=>match D.decs x y with
      |.isTrue h=>Decidable.isTrue (by rw[h])
      |.isFalse h=>Decidable.isFalse (λe=>h (by injection e))
    |.non=>Decidable.isFalse (λh=>nomatch h)|.bl _=>Decidable.isFalse (λh=>nomatch h)|.int _=>Decidable.isFalse (λh=>nomatch h)|.str _=>Decidable.isFalse (λh=>nomatch h)|.ref _=>Decidable.isFalse (λh=>nomatch h)
  | .ref x,b=>match b with
    |.ref y=>if h:x=y then Decidable.isTrue (by rw[h]) else Decidable.isFalse (λe=>h (by injection e))
    |.non=>Decidable.isFalse (λh=>nomatch h)|.bl _=>Decidable.isFalse (λh=>nomatch h)|.int _=>Decidable.isFalse (λh=>nomatch h)|.str _=>Decidable.isFalse (λh=>nomatch h)|.tup _=>Decidable.isFalse (λh=>nomatch h)
def D.decs:(a b:List D)->Decidable (a=b)
  | [],b=>match b with
    |[]=>Decidable.isTrue rfl
    |_::_=>Decidable.isFalse (λh=>nomatch h)
  | x ::xs,b=>match b with
    |[]=>Decidable.isFalse (λh=>nomatch h)
    | y ::ys=>match D.dec x y with
      | .isTrue h1=>match D.decs xs ys with
        |.isTrue h2=>Decidable.isTrue (by rw[h1,h2])
        |.isFalse h2=>Decidable.isFalse (λe=>h2 (by injection e))
      |.isFalse h1=>Decidable.isFalse (λe=>h1 (by injection e))
end
instance:DecidableEq D:=D.dec
inductive Cell where
 |lst (l:List D)|rol (l:List D)|dict (l:List (D×D))|obj (c:Nat) (fs:List (Str×D))
 deriving DecidableEq
abbrev AH:=List Cell
inductive R(α:Type)where
 |ok (a:α) (h:AH)|no
def R.bind{α β:Type}(r:R α)(k:α->AH->R β):R β:=match r with
 |.ok a h=>k a h
 |.no=>.no
@[simp] theorem d9 {α β:Type} (a:α) (h:AH) (k:α->AH->R β):(R.ok a h).bind k=k a h:=rfl
@[simp] theorem b5J {α β:Type} (k:α->AH->R β):(R.no).bind k=.no:=rfl
mutual
def D.flat:D->Bool
  |.tup l=>D.flats l
  |.ref _=>false
  |_=>true
def D.flats:List D->Bool
  |[]=>true
  |d::r=>d.flat&&D.flats r
end
abbrev SL:Nat:=16777216
noncomputable def v8(c:Cell)(h:AH):R D:=.ok (.ref ↥h) (h++[c])
noncomputable def rdL(h:AH)(n:Nat):Option (List D):=match h[n]? with
 |some (.lst l)=>some l
 |some (.rol l)=>some l
 |_=>none
noncomputable def a2L:Int->Bool
 |.ofNat n=>Nat.ble n 18446744073709551615
 |.negSucc n=>Nat.ble n 18446744073709551614
noncomputable def a3i:Int->Bool
 |.ofNat n=>Nat.ble n 16777216
 |.negSucc n=>Nat.ble n 16777216
theorem a3j:∀{i:Int},a2L i=true-> -(2^64)<i/\i<2^64
 |.ofNat n,h=>by have h:=Nat.le_of_ble_eq_true h;show-(2^64)<(n:Int)/\(n:Int)<2^64;ac_nf
 |.negSucc n,h=>by have h:=Nat.le_of_ble_eq_true h;rw[Int.negSucc_eq];ac_nf
theorem a0x:∀{i:Int},a3i i=true-> -(2^62)<=i/\i<2^62
 |.ofNat n,h=>by have h:=Nat.le_of_ble_eq_true h;show-(2^62)<=(n:Int)/\(n:Int)<2^62;ac_nf
 |.negSucc n,h=>by have h:=Nat.le_of_ble_eq_true h;rw[Int.negSucc_eq];ac_nf
def O5(h:AH):D->D->R D
 |.int i,.int j=>.ok (.int (i+j)) h
 |.str x,.str y=>if ↥x+↥y<=SL then .ok (.str (x++y)) h else .no
 |.ref a,.ref b=>match h[a]?,h[b]? with
  |some (.lst xs),some (.lst ys)=>if ↥xs+↥ys<=SL then v8 (.lst (xs++ys)) h else .no
  |_,_=>.no
 |.tup xs,.tup ys=>if ↥xs+↥ys<=SL then .ok (.tup (xs++ys)) h else .no
 |_,_=>.no
noncomputable def a4u(h:AH):D->D->R D
 |.int i,.int j=>.ok (.int (i-j)) h
 |_,_=>.no
def O4(h:AH):D->D->R D
 |.int i,.int j=>if(a2L i||a2L j)=true then .ok (.int (i*j)) h else .no
 |.str x,.int k=>if a3i k=true/\↥x*k.toNat<=SL then .ok (.str (G0 k.toNat x)) h else .no
 |_,_=>.no
noncomputable def u0(h:AH):D->D->R D
 |.int i,.int j=>if 0<j/\j<1073741824 then .ok (.int (i/j)) h else .no
 |_,_=>.no
noncomputable def v0(h:AH):D->D->R D
 |.int i,.int j=>if 0<j then .ok (.int (i%j)) h else .no
 |_,_=>.no
noncomputable def eqS(a b:D):Option Bool:=match a with
 |.int i=>(match b with
  |.int j=>some (decide (i=j))
  |_=>none)
 |.str i=>(match b with
  |.str j=>some (decide (i=j))
  |_=>none)
 |_=>none
noncomputable def G5(p:Int->Int->Bool)(h:AH):D->D->R D
 |.int i,.int j=>.ok (.bl (p i j)) h
 |_,_=>.no
noncomputable def a5j(i j:Str):Bool:=!(Builtin.Str.occurrences j i 0 ↥j 1).isEmpty
noncomputable def y7:D->Bool
 |.non=>true|.bl _=>true|.int _=>true|.str _=>true
 |_=>false
noncomputable def eqF(a b:D):Bool:=match a with
 |.str x=>(match b with
  |.str y=>x==y
  |_=>false)
 |.int x=>(match b with
  |.int y=>x==y
  |.bl y=>x==(if y then 1 else 0)
  |_=>false)
 |.bl x=>(match b with
  |.bl y=>x==y
  |.int y=>(if x then 1 else 0)==y
  |_=>false)
 |.non=>(match b with
  |.non=>true
  |_=>false)
 |_=>false
def inD(x:D)(xs:List D):Bool:=xs.any λy=>eqF y x
def same (h:AH):Nat->D->D->Bool
 |0,x,y=>decide (x=y)&&y7 x
 | n +1,x,y=>match x with
  |.tup l=>(match y with
   |.tup r=>decide (↥l=↥r)&&(l.zip r).all λp=>same h n p.1 p.2
   |_=>false)
  | .ref i=>(match y with
   | .ref j=>(match rdL h i with
    |some l=>(match rdL h j with
     |some r=>decide (↥l=↥r)&&(l.zip r).all λp=>same h n p.1 p.2
     |none=>false)
    |none=>false)
   |_=>false)
  |x=>decide (x=y)&&y7 x
def b6g(h:AH)(x y:D):Bool:=match x with
 |.ref _=>same h 5 x y
 |_=>false
def a6V(h:AH)(x y:D):Bool:=match x with
 |.tup _=>same h 5 x y
 |_=>false
def J4(h:AH)(a b:D):R D:=match eqS a b with
 |some c=>.ok (.bl c) h
 |none=>if a6V h a b=true then .ok (.bl true) h else .no
def a3w(h:AH)(a b:D):R D:=match eqS a b with
 |some c=>.ok (.bl (!c)) h
 |none=>if b6g h a b=true then .ok (.bl false) h else if a6V h a b=true then .ok (.bl false) h else .no
noncomputable def K7:D->Option Key
 |.int i=>some (.inl i)
 |.str x=>some (.inr x)
 |_=>none
def G7:List D->Option (List Key)
 |[]=>some []
 |d::r=>match K7 d,G7 r with
  |some k,some ks=>some (k::ks)
  |_,_=>none
def K5:D->Option Bool
 |.int _=>some false
 |.str _=>some false
 |.tup l=>if(G7 l).isSome then some true else none
 |_=>none
def D6(k:D)(bF:List (D×D)):Bool:=(K5 k).isSome&&bF.all λp=>K5 p.1==K5 k
noncomputable def o0(bF:List (D×D))(k:D):Option D:=(bF.find? λp=>decide (p.1=k)).map (·.2)
noncomputable def a0V(bF:List (D×D))(k v:D):List (D×D):=if(bF.any λp=>decide (p.1=k))=true then bF.map (λp=>if p.1=k then(p.1,v) else p) else bF++[(k,v)]
def M8(neg:Bool)(h:AH):D->D->R D
 |.str i,.str j=>.ok (.bl (a5j i j !=neg)) h
 |x,.tup xs=>if y7 x&&xs.all y7 then .ok (.bl (inD x xs !=neg)) h else .no
 |x,.ref n=>match h[n]? with
  |some (.lst xs)=>if y7 x&&xs.all y7 then .ok (.bl (inD x xs !=neg)) h else .no
  |some (.rol xs)=>if y7 x&&xs.all y7 then .ok (.bl (inD x xs !=neg)) h else .no
  |some (.dict bF)=>if D6 x bF then .ok (.bl ((o0 bF x).isSome !=neg)) h else .no
  |_=>.no
 |_,_=>.no
noncomputable def a6u(h:AH):D->D->R D
 |.int i,.int j=>if 0<=j/\j<=64/\i.natAbs<=1000 then .ok (.int (i^j.toNat)) h else .no
 |_,_=>.no
inductive B where
 |add|sub|mul|div|mod|pow|eq|ne|lt|le|gt|ge|isin|notin
 deriving DecidableEq
def op2(o:B)(h:AH)(a b:D):R D:=match o with
 |.add=>O5 h a b|.sub=>a4u h a b|.mul=>O4 h a b|.div=>u0 h a b|.mod=>v0 h a b|.pow=>a6u h a b
 |.eq=>J4 h a b|.ne=>a3w h a b
 |.lt=>G5 (λi j=>decide (i<j)) h a b|.le=>G5 (λi j=>decide (i<=j)) h a b|.gt=>G5 (λi j=>decide (j<i)) h a b|.ge=>G5 (λi j=>decide (j<=i)) h a b
 |.isin=>M8 false h a b|.notin=>M8 true h a b
def ixD (h:AH):D->D->R D
 |.tup xs,.int i=>match atI xs i with
  |some d=>.ok d h
  |none=>.no
 |.str x,.int i=>if ↥x<=SL then(match atI x.cps.toList i with
  |some c=>.ok (.str ⟨#[c]⟩) h
  |none=>.no) else .no
 | .ref n,k=>match h[n]? with
  | some (.lst xs)=>(match k with
   |.int i=>(match atI xs i with
    |some d=>.ok d h
    |none=>.no)
   |_=>.no)
  | some (.rol xs)=>(match k with
   |.int i=>(match atI xs i with
    |some d=>.ok d h
    |none=>.no)
   |_=>.no)
  |some (.dict bF)=>if D6 k bF then(match o0 bF k with
   |some d=>.ok d h
   |none=>.no) else .no
  |_=>.no
 |_,_=>.no
def P9(xs:List D)(lo hi:Option Int):List D:=(xs.drop (HT.sIx ↥xs 0 lo)).take (HT.sIx ↥xs ↥xs hi-HT.sIx ↥xs 0 lo)
def slD(h:AH)(lo hi:Option Int):D->R D
 |.str x=>if ↥x<=SL then .ok (.str (Txt.slice x lo hi)) h else .no
 |.tup xs=>if HT.sIx ↥xs 0 lo=0/\HT.sIx ↥xs ↥xs hi=↥xs then .no else .ok (.tup (P9 xs lo hi)) h
 |.ref n=>match rdL h n with
  |some xs=>v8 (.lst (P9 xs lo hi)) h
  |none=>.no
 |_=>.no
noncomputable def W8(h:AH)(f:Str):D->R D
 | .ref n=>match h[n]? with
  |some (.obj _ fs)=>(match fs.lookup f with
   |some d=>.ok d h
   |none=>.no)
  |_=>.no
 |_=>.no
inductive Bi where
 |len|str|int|list|tuple|all|any|max|dict
 deriving DecidableEq
noncomputable def a7f:List D->Option (List Bool)
 |[]=>some []
 |.bl b::r=>(a7f r).map (b:: ·)
 |_::_=>none
noncomputable def a3e:List D->Option (List Str)
 |[]=>some []
 |.str x::r=>(a3e r).map (x:: ·)
 |_::_=>none
def a9y:List D->Option (List (D×D))
 |[]=>some []
 |.tup [k,v]::r=>if(K7 k).isSome then(a9y r).map ((k,v):: ·) else none
 |_::_=>none
def biL(b:Bi)(h:AH)(xs:List D):R D:=match b with
 |.len=>.ok (.int ↥xs) h
 |.list=>v8 (.lst xs) h
 |.tuple=>.ok (.tup xs) h
 |.all=>(match a7f xs with
  |some bs=>.ok (.bl (bs.all id)) h
  |none=>.no)
 |.any=>(match a7f xs with
  |some bs=>.ok (.bl (bs.any id)) h
  |none=>.no)
 |.dict=>(match a9y xs with
  |some bF=>v8 (.dict (bF.foldl (λa p=>a0V a p.1 p.2) [])) h
  |none=>.no)
 |_=>.no
def bi1(b:Bi)(h:AH)(d:D):R D:=match d with
 | .str x=>(match b with
  |.len=>if ↥x<=SL then .ok (.int ↥x) h else .no
  |.int=>if ↥x<=640 then(match PySem.intText? x with
   |some n=>.ok (.int n) h
   |none=>.no) else .no
  |_=>.no)
 |.tup xs=>(match b with
  |.len=>.ok (.int ↥xs) h
  |.list=>v8 (.lst xs) h
  |.tuple=>.ok (.tup xs) h
  |_=>.no)
 |.int i=>(match b with
  |.str=>if i.natAbs.log2<1920 then .ok (.str (toString i)) h else .no
  |.int=>.ok (.int i) h
  |_=>.no)
 |.bl k=>(match b with
  |.int=>.ok (.int (if k then 1 else 0)) h
  |_=>.no)
 | .ref n=>(match h[n]? with
  |some (.lst xs)=>biL b h xs
  |some (.rol xs)=>biL b h xs
  |some (.dict bF)=>(match b with
   |.len=>if D6 (.int 0) bF then .ok (.int ↥bF) h else .no
   |_=>.no)
  |_=>.no)
 |.non=>.no
noncomputable def c2a(h:AH)(a b:D):R D:=match a with
 |.int i=>(match b with
  |.int j=>.ok (.int (if j>i then j else i)) h
  |_=>.no)
 |_=>.no
def biD(b:Bi)(h:AH)(ds:List D):R D:=match ds with
 |[]=>.no
 |d::l=>(match l with
  |[]=>bi1 b h d
  |e::l=>if b=.max/\l=[] then c2a h d e else .no)
inductive Mt where
 |append|split|join|starts|extend
 deriving DecidableEq
def mtD (b:Mt) (h:AH):D->List D->R D
 | .ref n,[d]=>match b,h[n]? with
  |.append,some (.lst xs)=>if ↥xs<SL then .ok .non (h.set n (.lst (xs++[d]))) else .no
  | .extend,some (.lst xs)=>(match d with
   |.ref k=>(match h[k]? with
    |some (.lst ys)=>if ↥xs+↥ys<=SL then .ok .non (h.set n (.lst (xs++ys))) else .no
    |_=>.no)
   |_=>.no)
  |_,_=>.no
 |.str x,[.str y]=>match b with
  |.split=>if 0<↥y/\↥x+2<=SL then v8 (.lst ((Txt.split x y).map D.str)) h else .no
  |.starts=>.ok (.bl (Txt.startswith x y)) h
  |_=>.no
 | .str x,[.ref n]=>match b with
  | .join=>(match rdL h n with
   |some xs=>(match a3e xs with
    |some ts=>if JoinOk x ts=true then .ok (.str (Txt.join x ts)) h else .no
    |none=>.no)
   |none=>.no)
  |_=>.no
 |_,_=>.no
def mtT(b:Mt)(h:AH):D->Bool
 |.str _=>match b with
  |.split=>true|.join=>true|.starts=>true
  |_=>false
 |.ref n=>match b with
  |.append=>(rdL h n).isSome
  |.extend=>(rdL h n).isSome
  |_=>false
 |_=>false
def a6U(h:AH):D->D->D->R D
 |.ref n,k,x=>match h[n]? with
  |some (.dict bF)=>if D6 k bF&&(K7 k).isSome then .ok ((o0 bF k).getD x) h else .no
  |_=>.no
 |_,_,_=>.no
noncomputable def b1T(h:AH):D->Bool
 |.ref n=>match h[n]? with
  |some (.dict _)=>true
  |_=>false
 |_=>false
def a0L (h:AH) (o i v:D):R Unit:=match o with
 | .ref n=>match h[n]? with
  | some (.lst xs)=>(match i with
   |.int k=>(match ixN ↥xs k with
    |some j=>.ok () (h.set n (.lst (xs.set j v)))
    |none=>.no)
   |_=>.no)
  |some (.dict bF)=>if D6 i bF=true/\↥bF<SL then .ok () (h.set n (.dict (a0V bF i v))) else .no
  |_=>.no
 |_=>.no
noncomputable def a4s(f:Str)(v:D):List (Str×D)->List (Str×D)
 |[]=>[(f,v)]
 |(g,x)::r=>if g=f then(g,v)::r else(g,x)::a4s f v r
def a4Y(h:AH)(o:D)(f:Str)(v:D):R Unit:=match o with
 |.ref n=>match h[n]? with
  |some (.obj c fs)=>if ↥fs<1000 then .ok () (h.set n (.obj c (a4s f v fs))) else .no
  |_=>.no
 |_=>.no
variable{α:Type}
theorem ifs{c:Prop}[Decidable c]{a:Option α}{x:α}(h:(if c then a else none)=some x):c/\a=some x:=by
 split at h
 · rename_i z;exact⟨z,h⟩
 · cases h
theorem D.ind{P:D->Prop}{Q:List D->Prop}(h0:P .non)(h1:∀b,P (.bl b))(h2:∀i,P (.int i))(h3:∀x,P (.str x))(h4:∀l,Q l->P (.tup l))(h5:∀n,P (.ref n))(q0:Q [])(q1:∀d r,P d->Q r->Q (d::r)):
 (∀d,P d)/\∀l,Q l:=
 ⟨λd=>D.rec (motive_1:=P) (motive_2:=Q) h0 h1 h2 h3 h4 h5 q0 q1 d,λl=>by
  induction l with
  |nil=>exact q0
  |cons d r ih=>exact q1 d r (D.rec (motive_1:=P) (motive_2:=Q) h0 h1 h2 h3 h4 h5 q0 q1 d) ih⟩
mutual
def Rp(m:List Addr)(H:Hp):D->V->Prop
  |.non,v=>v=.non
  |.bl b,v=>v=.bl b
  |.int i,v=>v=.int i
  |.str x,v=>v=.str x
  |.tup l,v=>∃a vs,v=.ref a/\H a=some (.tup vs)/\Rps m H l vs
  |.ref n,v=>∃a,v=.ref a/\m[n]? =some a
def Rps(m:List Addr)(H:Hp):List D->List V->Prop
  |[],vs=>vs=[]
  |d::r,vs=>∃v t,vs=v::t/\Rp m H d v/\Rps m H r t
end
def Im:HO->Prop
 |.tup _=>True
 |.xd _=>True
 |_=>False
abbrev KIm(H H':Hp):Prop:=∀b o,Im o->H b=some o->H' b=some o
structure Keep(m m':List Addr)(H H':Hp):Prop where
 im:∀b o,Im o->H b=some o->H' b=some o
 out:∀b o,b∉m->H b=some o->H' b=some o
 fr:∀a,a∈m'->a∈m∨H a=none
theorem Keep.refl(m:List Addr)(H:Hp):Keep m m H H:=⟨λ_ _ _ h=>h,λ_ _ _ h=>h,λ_ h=>.inl h⟩
variable{m:List Addr}{m1:List Addr}{H:Hp}{H1:Hp}
theorem Keep.trans{m2:List Addr}{H2:Hp}(a:Keep m m1 H H1)(b:Keep m1 m2 H1 H2):Keep m m2 H H2:=by
 refine⟨λc o i h=>b.im c o i (a.im c o i h),λc o n h=>b.out c o (λz=>?_) (a.out c o n h),λc h=>?_⟩
 · rcases a.fr c z with q|q
   · exact n q
   · rw[h] at q;cases q
 · rcases b.fr c h with q|q
   · exact a.fr c q
   · by_cases hc:c∈m
     · exact .inl hc
     · cases e:H c with
       |none=>exact .inr rfl
       |some o=>rw[a.out c o hc e] at q;cases q
theorem Keep.new{p:Addr}{o:HO}(hp:H p=none):Keep m m H (upd H p o):=
 ⟨λb ob _ h=>by rw[m8 (y9 h hp)];exact h,λb ob _ h=>by rw[m8 (y9 h hp)];exact h,λ_ h=>.inl h⟩
theorem Keep.newc{p:Addr}{o:HO}(hp:H p=none):Keep m (m++[p]) H (upd H p o):=
 ⟨λb ob _ h=>by rw[m8 (y9 h hp)];exact h,λb ob _ h=>by rw[m8 (y9 h hp)];exact h,λa h=>by
  rcases aN.mp h with q|q
  · exact .inl q
  · simp at q;subst q;exact .inr hp⟩
variable{o':HO}
theorem Keep.put{p:Addr}{o:HO}{k:Nat}(hm:m[k]? =some p)(hp:H p=some o)(ni:¬Im o):Keep m m H (upd H p o'):=by
 refine⟨λb ob i h=>?_,λb ob n h=>?_,λ_ h=>.inl h⟩
 · have:b≠p:=λe=>by rw[e,hp] at h;cases h;exact ni i
   rw[m8 this];exact h
 · have:b≠p:=λe=>n (by rw[e];exact aI hm);rw[m8 this];exact h
theorem Keep.tup{m m':List Addr}{H H':Hp}(k:Keep m m' H H'){a:Addr}{vs:List V}(h:H a=some (.tup vs)):H' a=some (.tup vs):=k.im a _ trivial h
abbrev Pre(m m':List Addr):Prop:=∃t,m'=m++t
theorem Pre.refl(m:List Addr):Pre m m:=⟨[],by simp⟩
theorem Pre.trans{a b c:List Addr}(h:Pre a b)(k:Pre b c):Pre a c:=by obtain⟨t,rfl⟩:=h;obtain⟨u,rfl⟩:=k;exact⟨t++u,by simp⟩
theorem Pre.snoc(m:List Addr)(p:Addr):Pre m (m++[p]):=⟨[p],rfl⟩
variable{m':List Addr}{n:Nat}
theorem Pre.get(h:Pre m m'){a:Addr}(e:m[n]? =some a):m'[n]? =some a:=by obtain⟨t,rfl⟩:=h;rw[aw (ac.mp e).1];exact e
variable{H':Hp}
theorem a2O(p:Pre m m')(k:KIm H H'):(∀d v,Rp m H d v->Rp m' H' d v)/\∀l vs,Rps m H l vs->Rps m' H' l vs:=by
 refine D.ind (P:=λd=>∀v,Rp m H d v->Rp m' H' d v) (Q:=λl=>∀vs,Rps m H l vs->Rps m' H' l vs) ?_ ?_ ?_ ?_ ?_ ?_ ?_ ?_
 · intro v h;exact h
 · intro b v h;exact h
 · intro b v h;exact h
 · intro b v h;exact h
 · rintro l ih v ⟨a,vs,rfl,e,q⟩;exact⟨a,vs,rfl,k _ _ trivial e,ih vs q⟩
 · rintro n v ⟨a,rfl,e⟩;exact⟨a,rfl,p.get e⟩
 · intro vs h;exact h
 · rintro d r ih ihs vs ⟨v,t,rfl,q1,q2⟩;exact⟨v,t,rfl,ih v q1,ihs t q2⟩
variable{d:D}{v:V}
theorem Rp.mono(h:Rp m H d v)(p:Pre m m')(k:Keep m m' H H'):Rp m' H' d v:=(a2O p k.im).1 d v h
theorem Rp.mono'(h:Rp m H d v)(p:Pre m m')(k:KIm H H'):Rp m' H' d v:=(a2O p k).1 d v h
variable{l:List D}{vs:List V}
theorem Rps.mono(h:Rps m H l vs)(p:Pre m m')(k:Keep m m' H H'):Rps m' H' l vs:=(a2O p k.im).2 l vs h
theorem Rps.mono'(h:Rps m H l vs)(p:Pre m m')(k:KIm H H'):Rps m' H' l vs:=(a2O p k).2 l vs h
theorem a5c:(∀d v,D.flat d=true->Rp m H d v->Rp m' H d v)/\∀l vs,D.flats l=true->Rps m H l vs->Rps m' H l vs:=by
 refine D.ind (P:=λd=>∀v,D.flat d=true->Rp m H d v->Rp m' H d v) (Q:=λl=>∀vs,D.flats l=true->Rps m H l vs->Rps m' H l vs) ?_ ?_ ?_ ?_ ?_ ?_ ?_ ?_
 · intro v _ h;exact h
 · intro b v _ h;exact h
 · intro b v _ h;exact h
 · intro b v _ h;exact h
 · rintro l ih v f ⟨a,vs,rfl,e,q⟩;exact⟨a,vs,rfl,e,ih vs f q⟩
 · intro n v f;exact absurd f (by simp[D.flat])
 · intro vs _ h;exact h
 · rintro d r ih ihs vs f ⟨v,t,rfl,q1,q2⟩;rw[D.flats,ae] at f;exact⟨v,t,rfl,ih v f.1 q1,ihs t f.2 q2⟩
section
theorem Rps.len:∀{l:List D} {vs:List V},Rps m H l vs->↥vs=↥l
 |[],vs,h=>by rw[show vs=[] from h];rfl
 |d::r,vs,⟨v,t,e,_,q⟩=>by rw[e,length_cons,length_cons,Rps.len q]
theorem Rps.get:∀{l:List D} {vs:List V} {i:Nat} {d:D},Rps m H l vs->l[i]? =some d->∃v,vs[i]? =some v/\Rp m H d v
 |d'::r,vs,0,d,⟨v,t,e,q,_⟩,h=>by simp at h;subst h;exact⟨v,by rw[e];rfl,q⟩
 |d'::r,vs,i+1,d,⟨v,t,e,_,q⟩,h=>by obtain⟨w,h1,h2⟩:=Rps.get (i:=i) q (by simpa using h);exact⟨w,by rw[e];simpa using h1,h2⟩
 |[],_,_,_,_,h=>by simp at h
theorem Rps.app:∀{l l':List D} {vs eP:List V},Rps m H l vs->Rps m H l' eP->Rps m H (l++l') (vs++eP)
 |[],_,vs,_,h,k=>by rw[show vs=[] from h];exact k
 |d::r,_,vs,_,⟨v,t,e,q1,q2⟩,k=>by subst e;exact⟨v,_,rfl,q1,Rps.app q2 k⟩
theorem Rps.snoc(h:Rps m H l vs)(q:Rp m H d v):Rps m H (l++[d]) (vs++[v]):=h.app ⟨v,[],rfl,q,rfl⟩
theorem Rps.drop:∀{l:List D} {vs:List V} (n:Nat),Rps m H l vs->Rps m H (l.drop n) (vs.drop n)
 |[],vs,n,h=>by rw[show vs=[] from h];simp[Rps]
 |d::r,vs,0,h=>h
 |d::r,vs,n+1,⟨v,t,e,_,q⟩=>by subst e;exact Rps.drop n q
theorem Rps.take:∀{l:List D} {vs:List V} (n:Nat),Rps m H l vs->Rps m H (l.take n) (vs.take n)
 |[],vs,n,h=>by rw[show vs=[] from h];simp[Rps]
 |d::r,vs,0,h=>by simp[Rps]
 |d::r,vs,n+1,⟨v,t,e,q1,q⟩=>by subst e;exact⟨v,_,rfl,q1,Rps.take n q⟩
theorem Rps.set:∀{l:List D} {vs:List V} {d:D} {v:V} (n:Nat),Rps m H l vs->Rp m H d v->Rps m H (l.set n d) (vs.set n v)
 |[],vs,_,_,n,h,_=>by rw[show vs=[] from h];simp[Rps]
 |d::r,vs,_,_,0,⟨v,t,e,q1,q⟩,k=>by subst e;exact⟨_,t,rfl,k,q⟩
 |d::r,vs,_,_,n+1,⟨v,t,e,q1,q⟩,k=>by subst e;exact⟨v,_,rfl,q1,Rps.set n q k⟩
theorem Rps.strs:∀{ts:List Str},Rps m H (ts.map D.str) (ts.map V.str)
 |[]=>rfl
 |x::r=>⟨_,_,rfl,rfl,Rps.strs⟩
theorem Rps.cut(h:Rps m H l vs)(lo hi:Option Int):Rps m H (P9 l lo hi) (a6W vs lo hi):=by unfold P9 a6W;rw[h.len];exact(h.drop _).take _
theorem Rps.at{i:Int}(h:Rps m H l vs)(e:atI l i=some d):∃v,atI vs i=some v/\Rp m H d v:=by
 unfold atI at e⊢;rw[h.len];cases q:ixN ↥l i with
 |none=>rw[q] at e;cases e
 |some j=>rw[q] at e;exact h.get e
theorem a6k:∀{l:List D} {ts:List Str} {vs:List V},a3e l=some ts->Rps m H l vs->vs=ts.map V.str
 |[],ts,vs,e,h=>by cases e;exact h
 |d::r,ts,vs,e,⟨v,t,ev,q1,q2⟩=>by
  subst ev;cases d<;>simp only[a3e] at e<;>try cases e
  rename_i x;cases q:a3e r with
  |none=>rw[q] at e;cases e
  |some us=>rw[q] at e;cases e;rw[a6k q q2,show v=V.str x from q1];rfl
theorem a4Z:∀{l:List D} {ts:List Bool} {vs:List V},a7f l=some ts->Rps m H l vs->vs=ts.map V.bl
 |[],ts,vs,e,h=>by cases e;exact h
 |d::r,ts,vs,e,⟨v,t,ev,q1,q2⟩=>by
  subst ev;cases d<;>simp only[a7f] at e<;>try cases e
  rename_i x;cases q:a7f r with
  |none=>rw[q] at e;cases e
  |some us=>rw[q] at e;cases e;rw[a4Z q q2,show v=V.bl x from q1];rfl
end
structure Gm where
 K:PySem.W.Frag
 cA:Nat->Addr
 ob:List Nat
 xs:List Nat
def Fl(m:List Addr)(H:Hp):List (Str×D)->List (Str×V)->Prop:=Paired λp q=>p.1=q.1/\Rp m H p.2 q.2
def DK(m:List Addr)(H:Hp):List (D×D)->List (Key×V)->Prop:=Paired λp q=>K7 p.1=some q.1/\Rp m H p.2 q.2
def DT(m:List Addr)(H:Hp):List (D×D)->List (List Key×V)->Prop:=Paired λp q=>(∃l,p.1=.tup l/\G7 l=some q.1)/\Rp m H p.2 q.2
def G3(Γ:Gm)(m:List Addr)(H:Hp)(a:Addr):Cell->Prop
 |.lst l=>∃vs,H a=some (.lst vs)/\Rps m H l vs
 |.rol l=>∃vs,SqL Γ.K H a vs/\Rps m H l vs/\∃o,H a=some (.frz o (.lst vs))
 |.dict l=>(∃bF,H a=some (.dK bF)/\DK m H l bF)∨∃bF,H a=some (.dT bF)/\DT m H l bF
 |.obj c fs=>∃dx gs,H a=some (.ins (Γ.cA c) dx gs)/\Fl m H fs gs/\c∈Γ.ob
variable{Γ:Gm}
theorem G3.there{a:Addr}{c:Cell}(h:G3 Γ m H a c):∃o,H a=some o/\¬Im o:=by
 cases c with
 |lst l=>obtain⟨vs,e,_⟩:=h;exact⟨_,e,λz=>z⟩
 |rol l=>obtain⟨vs,_,_,o,e⟩:=h;exact⟨_,e,λz=>z⟩
 |dict l=>
  rcases h with⟨bF,e,_⟩|⟨bF,e,_⟩
  · exact⟨_,e,λz=>z⟩
  · exact⟨_,e,λz=>z⟩
 |obj c fs=>obtain⟨dx,gs,e,_⟩:=h;exact⟨_,e,λz=>z⟩
theorem Fl.mono{fs:List (Str×D)}{gs:List (Str×V)}(h:Fl m H fs gs)(p:Pre m m')(k:KIm H H'):Fl m' H' fs gs:=Paired.mapP h λ_ _ z=>⟨z.1,z.2.mono' p k⟩
variable{gs:List (Key×V)}
theorem DK.mono{fs:List (D×D)}(h:DK m H fs gs)(p:Pre m m')(k:KIm H H'):DK m' H' fs gs:=Paired.mapP h λ_ _ z=>⟨z.1,z.2.mono' p k⟩
theorem DT.mono{fs:List (D×D)}{gs:List (List Key×V)}(h:DT m H fs gs)(p:Pre m m')(k:KIm H H'):DT m' H' fs gs:=Paired.mapP h λ_ _ z=>⟨z.1,z.2.mono' p k⟩
theorem G3.mono'{a:Addr}{c:Cell}(h:G3 Γ m H a c)(p:Pre m m')(k:KIm H H')(e:H' a=H a):G3 Γ m' H' a c:=by
 cases c with
 |lst l=>obtain⟨vs,q,r⟩:=h;exact⟨vs,e.trans q,r.mono' p k⟩
 |rol l=>obtain⟨vs,s,r,o,q⟩:=h;exact⟨vs,.inl (.inr ⟨o,e.trans q⟩),r.mono' p k,o,e.trans q⟩
 |dict l=>
  rcases h with⟨bF,q,r⟩|⟨bF,q,r⟩
  · exact .inl ⟨bF,e.trans q,r.mono p k⟩
  · exact .inr ⟨bF,e.trans q,r.mono p k⟩
 |obj c fs=>obtain⟨dx,gs,q,r,z⟩:=h;exact⟨dx,gs,e.trans q,r.mono p k,z⟩
theorem G3.mono{a:Addr}{c:Cell}(h:G3 Γ m H a c)(p:Pre m m')(k:Keep m m' H H')(e:H' a=H a):G3 Γ m' H' a c:=h.mono' p k.im e
structure Sim(Γ:Gm)(ah:AH)(m:List Addr)(H:Hp):Prop where
 len:↥m=↥ah
 nd:m.Nodup
 cell:∀(n:Nat) (a:Addr) (c:Cell),m[n]? =some a->ah[n]? =some c->G3 Γ m H a c
section
variable{ah:AH}
theorem Sim.at(s:Sim Γ ah m H){a:Addr}{c:Cell}(h:m[n]? =some a)(e:ah[n]? =some c):G3 Γ m H a c:=s.cell n a c h e
theorem Sim.has(s:Sim Γ ah m H){a:Addr}(h:m[n]? =some a):∃c,ah[n]? =some c:=by have h:=(ac.mp h).1;rw[s.len] at h;exact⟨ah[n],ai h⟩
theorem Sim.fresh(s:Sim Γ ah m H){p:Addr}(hp:H p=none):p∉m:=λhm=>by obtain⟨n,hn⟩:=List.getElem?_of_mem hm;obtain⟨c,hc⟩:=s.has hn;obtain⟨o,e,_⟩:=(s.at hn hc).there;rw[hp] at e;cases e
theorem Sim.keep(s:Sim Γ ah m H)(k:Keep m m H H')(e:∀(n:Nat) (a:Addr),m[n]? =some a->H' a=H a):Sim Γ ah m H':=
 ⟨s.len,s.nd,λn a c h q=>(s.at h q).mono (Pre.refl m) k (e n a h)⟩
theorem Sim.same(s:Sim Γ ah m H)(k:c2F H H'):Sim Γ ah m H':=
 s.keep ⟨λb o _ h=>k b o h,λb o _ h=>k b o h,λ_ h=>.inl h⟩ λn a h=>by obtain⟨c,hc⟩:=s.has h;obtain⟨o,e,_⟩:=(s.at h hc).there;rw[e];exact k a o e
theorem Sim.new{p:Addr}{o:HO}(s:Sim Γ ah m H)(hp:H p=none):Sim Γ ah m (upd H p o):=s.same λb ob h=>by rw[m8 (y9 h hp)];exact h
theorem a0X{m:List Addr}{p:Addr}(nd:m.Nodup)(hp:p∉m):(m++[p]).Nodup:=by rw[nodup_append];refine⟨nd,by simp,λa ha b hb=>?_⟩;simp at hb;subst hb;rintro rfl;exact hp ha
theorem Sim.alloc{p:Addr}{o:HO}{c:Cell}(s:Sim Γ ah m H)(hp:H p=none)(h:G3 Γ (m++[p]) (upd H p o) p c):Sim Γ (ah++[c]) (m++[p]) (upd H p o):=by
 refine⟨by simp[s.len],a0X s.nd (s.fresh hp),λn a c' hn hc=>?_⟩
 by_cases hl:n<↥m
 · rw[aw hl] at hn;rw[aw (by rw[←s.len];exact hl)] at hc;have ok:=s.at hn hc;refine ok.mono (Pre.snoc m p) (Keep.newc hp) ?_;obtain⟨o',e,_⟩:=ok.there;rw[m8 (y9 e hp)]
 · have hn':n=↥m:=by have:=(ac.mp hn).1;simp at this;ac_nf
   subst hn';rw[av (aj _)] at hn;rw[s.len,av (aj _)] at hc;simp at hn hc;subst hn;subst hc;exact h
theorem Sim.write{k:Nat}{q:Addr}{o:HO}{c:Cell}(s:Sim Γ ah m H)(hk:m[k]? =some q)(hq:H q=some o)(ni:¬Im o)(h:G3 Γ m (upd H q o') q c):Sim Γ (ah.set k c) m (upd H q o'):=by
  refine⟨by simp[s.len],s.nd,λn a c' hn hc=>?_⟩
  by_cases e:n=k
  · subst e;rw[hk] at hn;cases hn;rw[List.getElem?_set_self (by rw[←s.len];exact(ac.mp hk).1)] at hc;cases hc;exact h
  · rw[List.getElem?_set_ne (Ne.symm e)] at hc;have ne:a≠q:=λz=>by subst z;exact e (nodup_ixA s.nd hn hk)
    exact(s.at hn hc).mono (Pre.refl m) (Keep.put hk hq ni) (m8 ne)
where
  nodup_ixA {m:List Addr} (hN:m.Nodup) {i j:Nat} {x:Addr} (a:m[i]? =some x) (b:m[j]? =some x):i=j:=by obtain⟨h1,e1⟩:=ac.mp a;obtain⟨h2,e2⟩:=ac.mp b;exact(getElem_inj hN).mp (e1.trans e2.symm)
theorem Sim.lst(s:Sim Γ ah m H){n:Nat}{l:List D}(e:ah[n]? =some (.lst l)){v:V}(r:Rp m H (.ref n) v):∃a vs,v=.ref a/\m[n]? =some a/\H a=some (.lst vs)/\Rps m H l vs:=by obtain⟨a,rfl,hm⟩:=r;obtain⟨vs,e1,e2⟩:=s.at hm e;exact⟨a,vs,rfl,hm,e1,e2⟩
theorem Sim.rdL(s:Sim Γ ah m H)(e:rdL ah n=some l)(r:Rp m H (.ref n) v):∃a vs,v=.ref a/\m[n]? =some a/\SqL Γ.K H a vs/\Rps m H l vs:=by
 obtain⟨a,rfl,hm⟩:=r;unfold EV.rdL at e;split at e
 · rename_i l' q;cases e;obtain⟨vs,e1,e2⟩:=s.at hm q;exact⟨a,vs,rfl,hm,.inl (.inl e1),e2⟩
 · rename_i l' q;cases e;obtain⟨vs,e1,e2,_⟩:=s.at hm q;exact⟨a,vs,rfl,hm,e1,e2⟩
 · cases e
end
abbrev u9:=List (Option D)
structure EnvRel(m:List Addr)(H:Hp)(env:u9)(σ:St):Prop where
 len:↥env=↥σ
 val:∀(i:Nat) (d:D),env[i]? =some (some d)->∃v,σ[i]? =some (some v)/\Rp m H d v
variable{env:u9}{σ:St}
theorem EnvRel.mono(h:EnvRel m H env σ)(p:Pre m m')(k:Keep m m' H H'):EnvRel m' H' env σ:=
 ⟨h.len,λi d e=>let⟨v,a,b⟩:=h.val i d e;⟨v,a,b.mono p k⟩⟩
theorem EnvRel.set(h:EnvRel m H env σ){i:Nat}(r:Rp m H d v):EnvRel m H (env.set i (some d)) (σ.set i (some v)):=by
 refine⟨by simp[h.len],λj d' e=>?_⟩
 by_cases q:j=i
 · subst q
   by_cases hl:j<↥env
   · rw[List.getElem?_set_self hl] at e;cases e;exact⟨v,List.getElem?_set_self (by rw[←h.len];exact hl),r⟩
   · rw[aY (by simp;ac_nf)] at e;cases e
 · rw[List.getElem?_set_ne (Ne.symm q)] at e⊢;exact h.val j d' e
structure Rel(Γ:Gm)(env:u9)(ah:AH)(σ:St)(H:Hp)(m:List Addr):Prop where
 sim:Sim Γ ah m H
 env:EnvRel m H env σ
def i9(Γ:Gm)(E:XK)(m:List Addr)(H:Hp)(r:R D)(Q:VK):Prop:=match r with
 |.ok d eO=>∀m' H' v,Pre m m'->Keep m m' H H'->Sim Γ eO m' H'->Rp m' H' d v->Q v H'
 |.no=>False
variable{Q:VK}
theorem ifq{E:XK}{c:Prop}[Decidable c]{a:R D}(q:i9 Γ E m H (if c then a else .no) Q):c/\i9 Γ E m H a Q:=by
 split at q
 · rename_i z;exact⟨z,q⟩
 · exact q.elim
def k8{α:Type}(Γ:Gm)(E:XK)(m:List Addr)(H:Hp)(r:R α)(Q:α->AH->List Addr->Hp->Prop):Prop:=match r with
 |.ok a eO=>∀m' H',Pre m m'->Keep m m' H H'->Sim Γ eO m' H'->Q a eO m' H'
 |.no=>False
variable{r:R D}{β:Type}{ah:AH}
section
variable{E:XK}
theorem i9.later(h:i9 Γ E m H r Q)(p:Pre m m')(k:Keep m m' H H'):i9 Γ E m' H' r Q:=by
 cases r with
 |ok d ah=>exact λm2 H2 v p2 k2 s2 r2=>h m2 H2 v (p.trans p2) (k.trans k2) s2 r2
 |no=>exact h
theorem i9.bind{r:R α}{f:α->AH->R D}(h:i9 Γ E m H (r.bind f) Q):k8 Γ E m H r (λa bN m1 H1=>i9 Γ E m1 H1 (f a bN) Q):=by
 cases r with
 |ok d ah=>exact λm2 H2 p2 k2 s2=>i9.later h p2 k2
 |no=>exact h
theorem k8.later{r:R α}{Q:α->AH->List Addr->Hp->Prop}(h:k8 Γ E m H r Q)(p:Pre m m')(k:Keep m m' H H'):k8 Γ E m' H' r Q:=by
 cases r with
 |ok d ah=>exact λm2 H2 p2 k2 s2=>h m2 H2 (p.trans p2) (k.trans k2) s2
 |no=>exact h
theorem k8.bind{r:R α}{f:α->AH->R β}{Q:β->AH->List Addr->Hp->Prop}(h:k8 Γ E m H (r.bind f) Q):k8 Γ E m H r (λa bN m1 H1=>k8 Γ E m1 H1 (f a bN) Q):=by
 cases r with
 |ok d ah=>exact λm2 H2 p2 k2 s2=>k8.later h p2 k2
 |no=>exact h
theorem k8.val{P:D->AH->List Addr->Hp->Prop}(h:k8 Γ E m H r P)(k:∀d bN m1 H1 v,Pre m m1->Keep m m1 H H1->Sim Γ bN m1 H1->Rp m1 H1 d v->P d bN m1 H1->Q v H1):i9 Γ E m H r Q:=by
 cases r with
 |ok d ah=>exact λm2 H2 v p2 k2 s2 r2=>k d ah m2 H2 v p2 k2 s2 r2 (h m2 H2 p2 k2 s2)
 |no=>exact h
theorem i9.ok(h:i9 Γ E m H (.ok d ah) Q)(s:Sim Γ ah m H)(r:Rp m H d v):Q v H:=h m H v (Pre.refl m) (Keep.refl m H) s r
theorem i9.newc{c:Cell}{p:Addr}{o:HO}(h:i9 Γ E m H (v8 c ah) Q)(s:Sim Γ ah m H)(hp:H p=none)(ok:G3 Γ (m++[p]) (upd H p o) p c):Q (.ref p) (upd H p o):=by refine h (m++[p]) (upd H p o) (.ref p) (Pre.snoc m p) (Keep.newc hp) (s.alloc hp ok) ⟨p,rfl,?_⟩;rw[←s.len,av (aj _)];simp
theorem i9.newt{p:Addr}(h:i9 Γ E m H (.ok (.tup l) ah) Q)(s:Sim Γ ah m H)(hp:H p=none)(r:Rps m H l vs):Q (.ref p) (upd H p (.tup vs)):=
 h m _ (.ref p) (Pre.refl m) (Keep.new hp) (s.new hp) ⟨p,vs,rfl,i8,r.mono (Pre.refl m) (Keep.new hp)⟩
end
open PySem PySem.Spec L2
open PyProof.Rows hiding St
theorem R9:SL=sizeLine:=by rw[sizeLine_eq]
theorem a3n{l:List α}{x:α}(h:l[n]? =some x):l.set n x=l:=by
 refine ext_getElem? λi=>?_
 by_cases e:i=n
 · subst e;rw[List.getElem?_set_self (ac.mp h).1,h]
 · rw[List.getElem?_set_ne (Ne.symm e)]
variable{A:Around}{op:CmpOp}{u:V}{v':Value}{u':Value}{bE:List (Addr×Obj)}{bF:List (D×D)}
section
variable{X:Cx}{E:XK}
noncomputable def rOf(Γ:Gm)(E:XK)(g:AH->D->D->R D):R2:=λx y H Q=>∃d1 d2 ah m,Sim Γ ah m H/\Rp m H d1 x/\Rp m H d2 y/\i9 Γ E m H (g ah d1 d2) Q
theorem OpR.imp{f:Value->Value->Sem Value}{r r':R2}(h:OpR X f r)(i:∀x y H Q,r' x y H Q->r x y H Q):OpR X f r':=λbE s σ H x y v u Q I rx ry q=>h bE s σ H x y v u Q I rx ry (i _ _ _ _ q)
open PyProof PyProof.Rows PySem.SeqAt PySem.MeetsSeq PySem.MeetsSeq2 PySem.MeetsSeq3 in
theorem b2Z{prog:Program}{w:World}{E:Value->Shared->Prop}{s:Shared}{t b:Addr}{vs ws:List Value}{Q:Value->Shared->Prop}(ht:PyProof.Rows.IsTup s.heap t vs.toArray)(hb:PyProof.Rows.IsTup s.heap b ws.toArray)(hv:vs=[])(h0:Q (.ref b) s):wpAny (model prog w) A (binaryOp .Add (.ref t) (.ref b)) Q E s:=by obtain⟨⟨cls,dd,data,sl⟩,ho,hc,n,hd⟩:=id ht;obtain⟨⟨cls2,dd2,data2,sl2⟩,ho2,hc2,n2,hd2⟩:=id hb;simp only at hc hd hc2 hd2;subst hc hd hc2 hd2;exact concat_meets ⟨_,ho,rfl⟩ ⟨_,ho2,rfl⟩ noFill_tuple_add seq_tuple_add PySem.F.slot_tuple_add PySem.F.entry_tuple_add (PySem.F.args_tuple_add_2 _ _) (tuple_addW0 t b vs.toArray ws.toArray n n2 dd dd2 sl sl2 (by simp[hv])) ⟨ho,ho2,h0⟩
theorem b1r:OpR X (binaryOp .Add) (λx y H Q=>∃a b xs ys,x=.ref a/\y=.ref b/\SqT X.K H a xs/\SqT X.K H b ys/\xs=[]/\Q (.ref b) H):=by intro bE s σ H x y v u Q I rx ry h;obtain⟨a,b,xs,ys,rfl,rfl,ha,hb,hx,q⟩:=h;cases rx;cases ry;obtain⟨bG,r1,p1,_⟩:=I.tuple ha;obtain⟨bT,r2,p2,_⟩:=I.tuple hb;exact b2Z p1 p2 (r1.nil_iff.mpr hx) ⟨.ref b,H,I,rfl,q⟩
theorem c0K:OpR X (binaryOp .Add) (rOf Γ E O5):=by
 refine OpR.imp (b7q.or (a7x.or (b7p.or (b4w.or b1r)))) ?_;rintro x y H Q ⟨d1,d2,ah,m,s,r1,r2,q⟩;unfold O5 at q;split at q
 · cases r1;cases r2;exact .inl ⟨_,_,rfl,rfl,q.ok s rfl⟩
 · cases r1;cases r2;obtain⟨h,q⟩:=ifq q;exact .inr (.inl ⟨_,_,rfl,rfl,by rw[←R9];exact h,q.ok s rfl⟩)
 · split at q
   · rename_i e1 e2;obtain⟨h,q⟩:=ifq q;obtain⟨a,vs,rfl,ha,h1,q1⟩:=s.lst e1 r1;obtain⟨b,ws,rfl,hb,h2,q2⟩:=s.lst e2 r2;refine .inr (.inr (.inl ⟨a,b,vs,ws,rfl,rfl,h1,h2,by rw[q1.len,q2.len,←R9];exact h,λp hp=>q.newc s hp ⟨_,i8,?_⟩⟩));exact(q1.app q2).mono (Pre.snoc m p) (Keep.newc hp)
   · exact q.elim
 · split at q
   · rename_i xs ys h;obtain⟨a,vs,rfl,h1,q1⟩:=r1;obtain⟨b,ws,rfl,h2,q2⟩:=r2
     by_cases hx:xs=[]
     · subst hx;have:=q1.len;refine .inr (.inr (.inr (.inr ⟨a,b,vs,ws,rfl,rfl,.inl (.inl h1),.inl (.inl h2),length_eq_zero_iff.mp (by rw[this];rfl),?_⟩)));rw[nil_append] at q;exact q.ok s ⟨b,ws,rfl,h2,q2⟩
     refine .inr (.inr (.inr (.inl ⟨a,b,vs,ws,rfl,rfl,.inl (.inl h1),.inl (.inl h2),λe=>hx ?_,by rw[q1.len,q2.len,←R9];exact h,λe=>?_,λ_ p hp=>q.newt s hp (q1.app q2)⟩)))
     · have:=q1.len;rw[e] at this;exact length_eq_zero_iff.mp this.symm
     · have:=q2.len;rw[e] at this;have z:ys=[]:=length_eq_zero_iff.mp this.symm;subst z;rw[bc] at q;exact q.ok s ⟨a,vs,rfl,h1,q1⟩
   · exact q.elim
 · exact q.elim
theorem c0D:OpR X (binaryOp .Pow) (rOf Γ E a6u):=by
 refine OpR.imp b7i ?_;rintro x y H Q ⟨d1,d2,ah,m,s,r1,r2,q⟩;unfold a6u at q;split at q
 · cases r1;cases r2;obtain⟨h,q⟩:=ifq q;exact⟨_,_,rfl,rfl,⟨h.1,by ac_nf,by ac_nf⟩,q.ok s rfl⟩
 · exact q.elim
theorem c0C:OpR X (binaryOp .Sub) (rOf Γ E a4u):=by
 refine OpR.imp b7h ?_;rintro x y H Q ⟨d1,d2,ah,m,s,r1,r2,q⟩;unfold a4u at q;split at q
 · cases r1;cases r2;exact⟨_,_,rfl,rfl,q.ok s rfl⟩
 · exact q.elim
theorem c0E:OpR X (binaryOp .Mult) (rOf Γ E O4):=by
 refine OpR.imp (b7l.or b4u) ?_;rintro x y H Q ⟨d1,d2,ah,m,s,r1,r2,q⟩;unfold O4 at q;split at q
 · cases r1;cases r2;obtain⟨h,q⟩:=ifq q;rw[br] at h;exact .inl ⟨_,_,rfl,rfl,h.imp a3j a3j,q.ok s rfl⟩
 · cases r1;cases r2;obtain⟨h,q⟩:=ifq q;exact .inr ⟨_,_,rfl,rfl,(by have:=a0x h.1;ac_nf),(by have:=a0x h.1;ac_nf),by rw[←R9];exact h.2,q.ok s rfl⟩
 · exact q.elim
theorem c0I:OpR X (binaryOp .FloorDiv) (rOf Γ E u0):=by
 refine OpR.imp b4v ?_;rintro x y H Q ⟨d1,d2,ah,m,s,r1,r2,q⟩;unfold u0 at q;split at q
 · cases r1;cases r2;obtain⟨h,q⟩:=ifq q;exact⟨_,_,rfl,rfl,h,q.ok s rfl⟩
 · exact q.elim
theorem c0F:OpR X (binaryOp .Mod) (rOf Γ E v0):=by
 refine OpR.imp b7m ?_;rintro x y H Q ⟨d1,d2,ah,m,s,r1,r2,q⟩;unfold v0 at q;split at q
 · cases r1;cases r2;obtain⟨h,q⟩:=ifq q;exact⟨_,_,rfl,rfl,h,q.ok s rfl⟩
 · exact q.elim
theorem c2p{x y:V}{b:Bool}(h:b=true↔x=y):b=decide (x=y):=by
 by_cases e:x=y
 · rw[bf e];exact h.mpr e
 · rw[bA e];cases b with
   |false=>rfl
   |true=>exact absurd (h.mp rfl) e
theorem b2N{d1 d2:D}{x y:V}{b:Bool}(e:eqS d1 d2=some b)(r1:Rp m H d1 x)(r2:Rp m H d2 y):scal x y=true/\b=decide (x=y):=by unfold eqS at e;split at e<;>first|(cases e;done)|(split at e<;>first|(cases e;done)|(cases e;cases r1;cases r2;refine⟨rfl,c2p ⟨λh=>?_,λh=>?_⟩⟩<;>first|(rw[ax h])|(injection h with h;exact bf h)))
theorem a8V{p:Int->Int->Bool}(h:OpR X (compareOp op) (rI0 λi j=>.bl (p i j))):OpR X (compareOp op) (rOf Γ E (G5 p)):=by
 refine OpR.imp h ?_;rintro x y H Q ⟨d1,d2,ah,m,s,r1,r2,q⟩;unfold G5 at q;split at q
 · cases r1;cases r2;exact⟨_,_,rfl,rfl,q.ok s rfl⟩
 · exact q.elim
theorem O0{x:V}(r:Rp m H d x)(f:y7 d=true):a0O x=true:=by cases d<;>first|(cases r;rfl)|(simp[y7] at f)
theorem O6{m:List Addr}{H:Hp}:∀{l:List D} {vs:List V},Rps m H l vs->l.all y7=true->vs.all a0O=true
 |[],vs,h,_=>by rw[show vs=[] from h];rfl
 |d::r,vs,⟨v,t,e,q1,q2⟩,f=>by subst e;rw[all_cons,ae] at f⊢;exact⟨O0 q1 f.1,O6 q2 f.2⟩
theorem b2P{e:D}{x y:V}(r1:Rp m H d x)(r2:Rp m H e y)(f1:y7 d=true)(f2:y7 e=true):eqF d e=eqV x y:=by cases d<;>first|(simp[y7] at f1;done)|(cases e<;>first|(simp[y7] at f2;done)|(cases r1;cases r2;rfl))
theorem a0d{m:List Addr}{H:Hp}{d:D}{x:V}(r:Rp m H d x)(f:y7 d=true):∀{l:List D} {vs:List V},Rps m H l vs->l.all y7=true->inD d l=inV x vs
 |[],vs,h,_=>by rw[show vs=[] from h];rfl
 |e::t,vs,⟨v,u,ev,q1,q2⟩,fl=>by subst ev;rw[all_cons,ae] at fl;have ih:=a0d r f q2 fl.2;unfold inD inV at ih⊢;rw[any_cons,any_cons,b2P q1 r fl.1 f,ih]
theorem b2O(h:y7 d=true):eqF d d=true:=by cases d<;>simp_all [y7,eqF]
theorem hu1(h:n+8<cLine):n+1<cLine:=Nat.lt_of_le_of_lt nofun h
theorem b5h{s:Shared}(f:y7 d=true)(r1:Rp m H d v)(r2:Rp m H d u)(rv:l8 v v')(ru:l8 u u'):SeqAt.EqAt A s v' u' true:=by have:=b2Q (A:=A) (s:=s) rv ru (O0 r1 f) (O0 r2 f);rw[←b2P r1 r2 f f,b2O f] at this;exact this
theorem a0b{s:Shared}{r:List D}{us:List V}{bG bT:List Value}{f:D->D->Bool}(hs:(decide (↥l=↥r)&&(l.zip r).all λp=>f p.1 p.2)=true)(r1:Rps m H l vs)(r2:Rps m H r us)(ra:p7 vs bG)(rb:p7 us bT)(k:∀d e,f d e=true->∀v u v' u',Rp m H d v->Rp m H e u->l8 v v'->l8 u u'->SeqAt.EqAt A s v' u' true):
 bG.toArray.size=bT.toArray.size/\∀j (h1:j<bG.toArray.size) (h2:j<bT.toArray.size),SeqAt.EqAt A s bG.toArray[j] bT.toArray[j] true:=by
 rw[ae] at hs;have e0:=ax hs.1;have e1:=↥ra;have e2:=↥rb;have e3:=r1.len;have e4:=r2.len;refine⟨by simp only[size_toArray];ac_nf,λj h1 h2=>?_⟩;simp only[size_toArray] at h1 h2;have hj:j<↥l:=by ac_nf
 have hj':j<↥r:=by ac_nf
 obtain⟨v,g1,p1⟩:=r1.get (ai hj);obtain⟨u,g2,p2⟩:=r2.get (ai hj');obtain⟨v',g3,p3⟩:=ra.get g1;obtain⟨u',g4,p4⟩:=rb.get g2;have:=k l[j] r[j] (bp.mp hs.2 (l[j],r[j]) (List.mem_iff_getElem?.mpr ⟨j,List.getElem?_zip_eq_some.mpr ⟨ai hj,ai hj'⟩⟩)) v u v' u' p1 p2 p3 p4;rw[ai h1] at g3;rw[ai h2] at g4;cases g3;cases g4
 simpa using this
theorem b6b{s:Shared}{e:D}(f:(decide (d=e)&&y7 d)=true)(r1:Rp m H d v)(r2:Rp m H e u)(rv:l8 v v')(ru:l8 u u'):SeqAt.EqAt A s v' u' true:=by rw[ae] at f;cases ax f.1;exact b5h f.2 r1 r2 rv ru
theorem a1M {bE:List (Addr×Obj)} {σ:St} {H:Hp} {s:Shared} (I:Inv X bE σ H s) (hK:X.K=Γ.K) {ah:AH} {m:List Addr} (S:Sim Γ ah m H):∀(n:Nat) (A:Around) (d e:D) (v u:V) (v' u':Value),same ah n d e=true->A.units+n<cLine->Rp m H d v->Rp m H e u->l8 v v'->l8 u u'->SeqAt.EqAt A s v' u' true
 |0,A,d,e,v,u,v',u',f,_,r1,r2,rv,ru=>b6b f r1 r2 rv ru
 | n + 1, A,d,e,v,u,v',u',f,hu,r1,r2,rv,ru=>by
  unfold same at f;split at f
  · split at f
    · obtain⟨a,vs,rfl,ha,rs⟩:=r1;obtain⟨b,us,rfl,hb,rt⟩:=r2;cases rv;cases ru
      by_cases hab:a=b
      · subst hab;exact SeqAt.EqAt.same _
      obtain⟨_,bG,ra,pa⟩:=I.hok a _ ha;obtain⟨_,bT,rb,pb⟩:=I.hok b _ hb;obtain⟨sz,el⟩:=a0b (A:=A.in1) (s:=s) f rs rt ra rb λd e f v u v' u' p1 p2 p3 p4=>a1M I hK S n A.in1 d e v u v' u' f (by show A.units+1+n<cLine;ac_nf) p1 p2 p3 p4;have:=SeqAt.RcAt.tuples (A:=A) (s:=s) (e:=λ_=>true) (show s.heap.IsTuple a bG.toArray from pa.tup) (show s.heap.IsTuple b bT.toArray from pb.tup) nofun el;rw[show((List.range (min bG.toArray.size bT.toArray.size)).all (λ_=>true)&&bG.toArray.size==bT.toArray.size)=true by rw[sz];simp] at this;exact SeqAt.EqAt.of_refs hab this
    · cases f
  · split at f
    · split at f
      · rename_i e1;split at f
        · rename_i e2;obtain⟨a,vs,rfl,_,s1,rs⟩:=S.rdL e1 r1;obtain⟨b,us,rfl,_,s2,rt⟩:=S.rdL e2 r2;cases rv;cases ru
          by_cases hab:a=b
          · subst hab;exact SeqAt.EqAt.same _
          obtain⟨bG,ra,pl,_⟩:=I.list (by rw[hK];exact s1);obtain⟨bT,rb,pl2,_⟩:=I.list (by rw[hK];exact s2);obtain⟨sz,el⟩:=a0b (A:=A.in1) (s:=s) f rs rt ra rb λd e f v u v' u' p1 p2 p3 p4=>a1M I hK S n A.in1 d e v u v' u' f (by show A.units+1+n<cLine;ac_nf) p1 p2 p3 p4;have:=SeqAt.RcAt.lists (A:=A) (s:=s) (e:=λ_=>true) pl.isList pl2.isList sz nofun el;rw[show(List.range bG.toArray.size).all (λ_=>true)=true by simp] at this;exact SeqAt.EqAt.of_refs hab this
        · cases f
      · cases f
    · cases f
  · exact b6b f r1 r2 rv ru
def b9w(Γ:Gm):R2:=λx y H Q=>∃i d ah m,Sim Γ ah m H/\Rp m H (.ref i) x/\Rp m H d y/\same ah 5 (.ref i) d=true/\Q (.bl false) H
theorem b5y{s:Shared}{i:Nat}{x y:V}{v u:Value}(I:Inv X bE σ H s)(hK:X.K=Γ.K)(S:Sim Γ ah m H)(hu:X.A.units+8<cLine)(r1:Rp m H (.ref i) x)(r2:Rp m H d y)(rv:l8 x v)(ru:l8 y u)(f:same ah 5 (.ref i) d=true):
 ∃a b bG bT,v=.ref a/\u=.ref b/\s.heap.IsList a bG/\s.heap.IsList b bT/\bG.size=bT.size/\∀j (h1:j<bG.size) (h2:j<bT.size),SeqAt.EqAt X.A.in1 s bG[j] bT[j] true:=by
 unfold same at f;simp only at f;split at f
 · split at f
   · rename_i e1;split at f
     · rename_i e2;obtain⟨a,vs,rfl,_,s1,rs⟩:=S.rdL e1 r1;obtain⟨b,us,rfl,_,s2,rt⟩:=S.rdL e2 r2;cases rv;cases ru;obtain⟨bG,ra,pl,_⟩:=I.list (by rw[hK];exact s1);obtain⟨bT,rb,pl2,_⟩:=I.list (by rw[hK];exact s2);obtain⟨sz,el⟩:=a0b (A:=X.A.in1) (s:=s) f rs rt ra rb λd e f v u v' u' p1 p2 p3 p4=>a1M I hK S 4 X.A.in1 d e v u v' u' f (by show X.A.units+1+4<cLine;ac_nf) p1 p2 p3 p4;exact⟨a,b,_,_,rfl,rfl,pl.isList,pl2.isList,sz,el⟩
     · cases f
   · cases f
 · cases f
def b0Q(Γ:Gm)(k:Bool):R2:=λx y H Q=>∃l d ah m,Sim Γ ah m H/\Rp m H (.tup l) x/\Rp m H d y/\same ah 5 (.tup l) d=true/\Q (.bl k) H
theorem b7j(hu:X.A.units+8<cLine)(hK:X.K=Γ.K):OpR X (compareOp .NotEq) (b0Q Γ false):=by
 intro bE s σ H x y v u Q I rx ry h;obtain⟨l,d,ah,m,S,r1,r2,f,q⟩:=h;unfold same at f;simp only at f;split at f
 · obtain⟨a,vs,rfl,ha,rs⟩:=r1;obtain⟨b,us,rfl,hb,rt⟩:=r2;cases rx;cases ry;obtain⟨_,bG,ra,pa⟩:=I.hok a _ ha;obtain⟨_,bT,rb,pb⟩:=I.hok b _ hb;obtain⟨sz,el⟩:=a0b (A:=X.A.in1) (s:=s) f rs rt ra rb λd e f v u v' u' p1 p2 p3 p4=>a1M I hK S 4 X.A.in1 d e v u v' u' f (by show X.A.units+1+4<cLine;ac_nf) p1 p2 p3 p4;refine SeqAt.RcNeAt.tuples (e:=λ_=>true) (show s.heap.IsTuple a bG.toArray from pa.tup) (show s.heap.IsTuple b bT.toArray from pb.tup) nofun el X.prog X.w _ _ ⟨.bl _,H,I,rfl,?_⟩;rw[show(!((List.range (min bG.toArray.size bT.toArray.size)).all (λ_=>true)&&bG.toArray.size==bT.toArray.size))=false by rw[sz];simp];exact q
 · cases f
theorem b7o(hu:X.A.units+8<cLine)(hK:X.K=Γ.K):OpR X (compareOp .Eq) (b0Q Γ true):=by
 intro bE s σ H x y v u Q I rx ry h;obtain⟨l,d,ah,m,S,r1,r2,f,q⟩:=h;unfold same at f;simp only at f;split at f
 · obtain⟨a,vs,rfl,ha,rs⟩:=r1;obtain⟨b,us,rfl,hb,rt⟩:=r2;cases rx;cases ry;obtain⟨_,bG,ra,pa⟩:=I.hok a _ ha;obtain⟨_,bT,rb,pb⟩:=I.hok b _ hb;obtain⟨sz,el⟩:=a0b (A:=X.A.in1) (s:=s) f rs rt ra rb λd e f v u v' u' p1 p2 p3 p4=>a1M I hK S 4 X.A.in1 d e v u v' u' f (by show X.A.units+1+4<cLine;ac_nf) p1 p2 p3 p4;refine SeqAt.RcAt.tuples (e:=λ_=>true) (show s.heap.IsTuple a bG.toArray from pa.tup) (show s.heap.IsTuple b bT.toArray from pb.tup) nofun el X.prog X.w _ _ ⟨.bl _,H,I,rfl,?_⟩;rw[show((List.range (min bG.toArray.size bT.toArray.size)).all (λ_=>true)&&bG.toArray.size==bT.toArray.size)=true by rw[sz];simp];exact q
 · cases f
theorem b7k(hu:X.A.units+8<cLine)(hK:X.K=Γ.K):OpR X (compareOp .NotEq) (b9w Γ):=by intro bE s σ H x y v u Q I rx ry h;obtain⟨i,d,ah,m,S,r1,r2,f,q⟩:=h;obtain⟨a,b,bG,bT,rfl,rfl,l1,l2,sz,el⟩:=b5y I hK S hu r1 r2 rx ry f;refine SeqAt.RcNeAt.lists (e:=λ_=>true) l1 l2 sz nofun el X.prog X.w _ _ ⟨.bl _,H,I,rfl,?_⟩;rw[show(List.range bG.size).all (λ_=>true)=true by simp];exact q
theorem c2o(hu:X.A.units+8<cLine)(hK:X.K=Γ.K):OpR X (compareOp .Eq) (rOf Γ E J4):=by
 refine OpR.imp (b9K.or (b7o hu hK)) ?_;rintro x y H Q ⟨d1,d2,ah,m,s,r1,r2,q⟩;unfold J4 at q;split at q
 · rename_i c e;obtain⟨h1,h2⟩:=b2N e r1 r2;exact .inl ⟨h1,by rw[←h2];exact q.ok s rfl⟩
 · split at q
   · rename_i hd;cases d1<;>first|exact .inr ⟨_,_,_,_,s,r1,r2,hd,q.ok s rfl⟩|cases hd
   · exact q.elim
theorem c2m(hu:X.A.units+8<cLine)(hK:X.K=Γ.K):OpR X (compareOp .NotEq) (rOf Γ E a3w):=by
 refine OpR.imp ((b9F.or (b7k hu hK)).or (b7j hu hK)) ?_;rintro x y H Q ⟨d1,d2,ah,m,s,r1,r2,q⟩;unfold a3w at q;split at q
 · rename_i c e;obtain⟨h1,h2⟩:=b2N e r1 r2;exact .inl (.inl ⟨h1,by rw[←h2];exact q.ok s rfl⟩)
 · split at q
   · rename_i hd;cases d1<;>first|exact .inl (.inr ⟨_,_,_,_,s,r1,r2,hd,q.ok s rfl⟩)|cases hd
   · split at q
     · rename_i hd;cases d1<;>first|exact .inr ⟨_,_,_,_,s,r1,r2,hd,q.ok s rfl⟩|cases hd
     · exact q.elim
theorem b6H{s:Shared}{a:Addr}(I:Inv X bE σ H s)(h:H a=some (.dK [])):Inv X bE σ (upd H a (.dT [])) s:=by
 obtain⟨z,hd,vs,cy,o,es,ep,ho,hx,hdt,hes,hp,hh⟩:=I.hok a _ h;cases cy;have e0:es.toList=[]:=by cases q:es.toList with
  |nil=>rfl
  |cons x r=>rw[q] at hp;cases hp
 exact I.write (x:=a) (e:=a) (h':=s.heap) (t':=s.toks) (by rw[h];trivial) (.inl rfl) (λb u _ q=>q) ⟨o,ho⟩ ⟨z,hd,[],.nil,o,es,ep,ho,hx,hdt,e0,nodup_nil⟩
theorem b0O{s:Shared}{a:Addr}(I:Inv X bE σ H s)(h:H a=some (.dT [])):Inv X bE σ (upd H a (.dK [])) s:=by obtain⟨z,hd,xs,cy,o,es,ep,ho,hx,hdt,hes,hh⟩:=I.hok a _ h;cases cy;have e0:es= #[]:=Array.toList_inj.mp hes;subst e0;refine I.write (x:=a) (e:=a) (h':=s.heap) (t':=s.toks) (by rw[h];trivial) (.inl rfl) (λb u _ q=>q) ⟨o,ho⟩ ⟨z,hd,[],.nil,o,#[],ep,ho,hx,hdt,λe he=>?_,.nil,nodup_nil⟩;simp at he
theorem W7{k:Key}(e:K7 d=some k)(r:Rp m H d v):v=kV k:=by cases d<;>simp only[K7] at e<;>first|(cases e;done)|(cases e;cases r;rfl)
theorem a3G{m:List Addr}{H:Hp}:∀{l:List D} {vs:List V} {ks:List Key},G7 l=some ks->Rps m H l vs->vs=ks.map kV
 |[],vs,ks,e,h=>by cases e;exact h
 |d::r,vs,ks,e,⟨v,t,ev,q1,q2⟩=>by
  subst ev;unfold G7 at e;split at e
  · rename_i k ks' e1 e2;cases e;rw[map_cons,W7 e1 q1,a3G e2 q2]
  · cases e
theorem Z9{a b:D}{k:Key}(h1:K7 a=some k)(h2:K7 b=some k):a=b:=by cases a<;>simp only[K7] at h1<;>first|(cases h1;done)|(cases h1;cases b<;>simp only[K7] at h2<;>first|(cases h2;done)|(cases h2;rfl))
theorem a2b:∀{a b:List D} {k:List Key},G7 a=some k->G7 b=some k->a=b
 |[],[],_,_,_=>rfl
 |[],y::ys,k,h1,h2=>by cases h1;unfold G7 at h2;split at h2<;>cases h2
 |x::xs,[],k,h1,h2=>by cases h2;unfold G7 at h1;split at h1<;>cases h1
 |x::xs,y::ys,k,h1,h2=>by
  unfold G7 at h1 h2;split at h1
  · rename_i k1 ks1 e1 e2;cases h1;split at h2
    · rename_i k2 ks2 e3 e4;cases h2;rw[Z9 e1 e3,a2b e2 e4]
    · cases h2
  · cases h1
theorem a5r(h:K5 d=some false):∃k,K7 d=some k:=by cases d<;>simp only[K5] at h<;>first|(cases h;done)|exact⟨_,rfl⟩|(split at h<;>cases h)
theorem a3H(h:K5 d=some true):∃l ks,d=.tup l/\G7 l=some ks:=by
 cases d<;>simp only[K5] at h<;>first|(cases h;done)|skip
 rename_i l;obtain⟨e,h⟩:=ifs h;obtain⟨ks,hk⟩:=Option.isSome_iff_exists.mp e;exact⟨l,ks,rfl,hk⟩
theorem DK.val{l:List (D×D)}{bF:List (Key×V)}(r:DK m H l bF){k:Key}(e:K7 d=some k):
 (∀c,o0 l d=some c->∃v,V2 bF k=some v/\Rp m H c v)/\(o0 l d=none->V2 bF k=none):=by
 induction r with
 |nil=>exact⟨λc h=>(by cases h),λ_=>rfl⟩
 | @cons p q ps qs h t ih=>
  by_cases z:p.1=d
  · have z':q.1=k:=by have:=h.1;rw[z,e] at this;exact(ay this).symm
    rw[Y6 z',show o0 (p::ps) d=some p.2 from by simp[o0,List.find?_cons,z]];exact⟨λc hc=>by cases hc;exact⟨q.2,rfl,h.2⟩,λhc=>by cases hc⟩
  · have z':¬q.1=k:=λy=>z (Z9 (by rw[h.1,y]) e);rw[Y7 z',show o0 (p::ps) d=o0 ps d from by simp[o0,List.find?_cons,z]];exact ih
theorem DT.val{l:List (D×D)}{bF:List (List Key×V)}(r:DT m H l bF){d:List D}{k:List Key}(e:G7 d=some k):
 (∀c,o0 l (.tup d)=some c->∃v,V2 bF k=some v/\Rp m H c v)/\(o0 l (.tup d)=none->V2 bF k=none):=by
 induction r with
 |nil=>exact⟨λc h=>(by cases h),λ_=>rfl⟩
 | @cons p q ps qs h t ih=>
  obtain⟨⟨l',e1,e2⟩,h2⟩:=h
  by_cases z:p.1=.tup d
  · have z':q.1=k:=by rw[e1] at z;injection z with z;rw[z,e] at e2;exact(ay e2).symm
    rw[Y6 z',show o0 (p::ps) (.tup d)=some p.2 from by simp[o0,List.find?_cons,z]];exact⟨λc hc=>by cases hc;exact⟨q.2,rfl,h2⟩,λhc=>by cases hc⟩
  · have z':¬q.1=k:=λy=>z (e1.trans (congrArg D.tup (a2b (e2.trans (congrArg some y)) e)));rw[Y7 z',show o0 (p::ps) (.tup d)=o0 ps (.tup d) from by simp[o0,List.find?_cons,z]];exact ih
theorem DK.put {l:List (D×D)} {bF:List (Key×V)} (r:DK m H l bF) {c:D} {k:Key} (e:K7 d=some k) (rv:Rp m H c v):DK m H (a0V l d c) (Q1 bF k v):=by
 have any:(l.any λp=>decide (p.1=d))=bF.any λp=>decide (p.1=k):=by
  induction r with
  |nil=>rfl
  | @cons p q ps qs h t ih=>
   rw[any_cons,any_cons,ih];congr 1;refine decide_eq_decide.mpr ⟨fun(z:p.1=d)=>?_,fun(z:q.1=k)=>Z9 (by rw[h.1,z]) e⟩;have:=h.1;rw[z,e] at this;exact(ay this).symm
 unfold a0V Q1;rw[any];split
 · clear any
   induction r with
   |nil=>exact .nil
   | @cons p q ps qs h t ih=>
    rename_i hh;rw[map_cons,map_cons];refine .cons ?_ ?_
    · by_cases z:p.1=d
      · have z':q.1=k:=by have:=h.1;rw[z,e] at this;exact(ay this).symm
        rw[az z,az z'];exact⟨h.1,rv⟩
      · have z':¬q.1=k:=λy=>z (Z9 (by rw[h.1,y]) e);rw[aA z,aA z'];exact h
    · clear hh ih h
      induction t with
      |nil=>exact .nil
      | @cons p q ps qs h t ih=>
       rw[map_cons,map_cons];refine .cons ?_ ih
       by_cases z:p.1=d
       · have z':q.1=k:=by have:=h.1;rw[z,e] at this;exact(ay this).symm
         rw[az z,az z'];exact⟨h.1,rv⟩
       · have z':¬q.1=k:=λy=>z (Z9 (by rw[h.1,y]) e);rw[aA z,aA z'];exact h
 · exact Paired.snoc r ⟨e,rv⟩
theorem DT.put{l:List (D×D)}{bF:List (List Key×V)}(r:DT m H l bF){d:List D}{c:D}{k:List Key}(e:G7 d=some k)(rv:Rp m H c v):DT m H (a0V l (.tup d) c) (Q1 bF k v):=by
 have one:∀{p:D×D} {q:List Key×V},(∃l,p.1=.tup l/\G7 l=some q.1)->(p.1=.tup d↔q.1=k):=by rintro p q ⟨l',e1,e2⟩;refine⟨fun(z:p.1=.tup d)=>?_,fun(z:q.1=k)=>e1.trans (congrArg D.tup (a2b (e2.trans (congrArg some z)) e))⟩;rw[e1] at z;injection z with z;rw[z,e] at e2;exact(ay e2).symm
 have any:(l.any λp=>decide (p.1=.tup d))=bF.any λp=>decide (p.1=k):=by
  induction r with
  |nil=>rfl
  | @cons p q ps qs h t ih=>
   rw[any_cons,any_cons,ih];congr 1;exact decide_eq_decide.mpr (one h.1)
 unfold a0V Q1;rw[any];split
 · have go:∀{l:List (D×D)} {bF:List (List Key×V)},DT m H l bF->DT m H (l.map λp=>if p.1=.tup d then(p.1,c) else p) (bF.map λp=>if p.1=k then(p.1,v) else p):=by
    intro l bF r
    induction r with
    |nil=>exact .nil
    | @cons p q ps qs h t ih=>
     rw[map_cons,map_cons];refine .cons ?_ ih
     by_cases z:p.1=.tup d
     · rw[az z,az ((one h.1).mp z)];exact⟨h.1,rv⟩
     · rw[aA z,aA λy=>z ((one h.1).mpr y)];exact h
   exact go r
 · exact Paired.snoc r ⟨⟨d,rfl,e⟩,rv⟩
theorem S9{s:Shared}{k:D}(I:Inv X bE σ H s)(S:Sim Γ ah m H)(e:ah[n]? =some (.dict bF))(ok:D6 k bF=true){a:Addr}(hm:m[n]? =some a):
 ∃H',Inv X bE σ H' s/\Keep m m H H'/\Sim Γ ah m H'/\((∃ks gs,K7 k=some ks/\H' a=some (.dK gs)/\DK m H' bF gs)∨∃l ks gs,k=.tup l/\G7 l=some ks/\H' a=some (.dT gs)/\DT m H' bF gs):=by
 unfold D6 at ok;rw[ae] at ok;obtain⟨ok1,ok2⟩:=ok;obtain⟨b,hb⟩:=Option.isSome_iff_exists.mp ok1;rcases S.at hm e with⟨gs,h1,h2⟩|⟨gs,h1,h2⟩
 · cases b with
   |false=>
    obtain⟨ks,hk⟩:=a5r hb;exact⟨H,I,Keep.refl m H,S,.inl ⟨ks,gs,hk,h1,h2⟩⟩
   | true=>
    obtain⟨l,ks,rfl,hk⟩:=a3H hb;cases h2 with
    |nil=>
     have kp:Keep m m H (upd H a (.dT [])):=Keep.put hm h1 λz=>z;have S':=S.write (o':=.dT []) (c:=.dict []) hm h1 (λz=>z) (.inr ⟨[],i8,.nil⟩);rw[show ah.set n (.dict [])=ah from a3n e] at S';exact⟨_,b6H I h1,kp,S',.inr ⟨l,ks,[],rfl,hk,i8,.nil⟩⟩
    | @cons p q ps qs h t=>
     rw[all_cons,ae,hb] at ok2;exfalso;have:=eq_of_beq ok2.1;obtain⟨l',ks',e1,_⟩:=a3H this;have h1:=h.1;rw[e1] at h1;cases h1
 · cases b with
   |true=>
    obtain⟨l,ks,rfl,hk⟩:=a3H hb;exact⟨H,I,Keep.refl m H,S,.inr ⟨l,ks,gs,rfl,hk,h1,h2⟩⟩
   | false=>
    obtain⟨ks,hk⟩:=a5r hb;cases h2 with
    |nil=>
     have kp:Keep m m H (upd H a (.dK [])):=Keep.put hm h1 λz=>z;have S':=S.write (o':=.dK []) (c:=.dict []) hm h1 (λz=>z) (.inl ⟨[],i8,.nil⟩);rw[show ah.set n (.dict [])=ah from a3n e] at S';exact⟨_,b0O I h1,kp,S',.inl ⟨ks,[],hk,i8,.nil⟩⟩
    | @cons p q ps qs h t=>
     rw[all_cons,ae,hb] at ok2;exfalso;have:=eq_of_beq ok2.1;obtain⟨ks',hk'⟩:=a5r this;obtain⟨⟨l',e1,_⟩,_⟩:=h;rw[e1] at hk';cases hk'
end
variable{ds:List D}{h:AH}{f:Str}
section
variable{X:Cx}{E:XK}
theorem a3U(b:Bool):(b !=false)=b:=by cases b<;>rfl
theorem a3T(b:Bool):(b !=true)=!b:=by cases b<;>rfl
theorem DK.some_eq{l:List (D×D)}{bF:List (Key×V)}(r:DK m H l bF){k:Key}(e:K7 d=some k):(o0 l d).isSome=(V2 bF k).isSome:=by
 obtain⟨h1,h2⟩:=r.val e;cases q:o0 l d with
 |none=>rw[h2 q];rfl
 |some c=>obtain⟨v,hv,_⟩:=h1 c q;rw[hv];rfl
theorem DT.some_eq{l:List (D×D)}{bF:List (List Key×V)}(r:DT m H l bF){d:List D}{k:List Key}(e:G7 d=some k):(o0 l (.tup d)).isSome=(V2 bF k).isSome:=by
 obtain⟨h1,h2⟩:=r.val e;cases q:o0 l (.tup d) with
 |none=>rw[h2 q];rfl
 |some c=>obtain⟨v,hv,_⟩:=h1 c q;rw[hv];rfl
theorem a1L{k:D}{x:V}{a:Addr}(kp:Keep m m H H')(r:Rp m H k x)
 (h:(∃ks gs,K7 k=some ks/\H' a=some (.dK gs)/\DK m H' bF gs)∨∃l ks gs,k=.tup l/\G7 l=some ks/\H' a=some (.dT gs)/\DT m H' bF gs):
 ∃o,a8e H' a x o/\(o0 bF k).isSome=o.isSome/\∀c,o0 bF k=some c->∃v,o=some v/\Rp m H' c v:=by
 rcases h with⟨ks,gs,hk,ha,dk⟩|⟨l,ks,gs,rfl,hk,ha,dt⟩
 · obtain⟨h1,h2⟩:=dk.val hk;exact⟨V2 gs ks,.inl ⟨gs,ks,.inl ha,W7 hk r,rfl⟩,dk.some_eq hk,λc hc=>h1 c hc⟩
 · obtain⟨h1,h2⟩:=dt.val hk;obtain⟨b,vs,rfl,hb,rs⟩:=r;have hv:=a3G hk rs;subst hv;exact⟨V2 gs ks,.inr ⟨gs,ks,b,.inl ha,rfl,kp.tup hb,rfl⟩,dt.some_eq hk,λc hc=>h1 c hc⟩
theorem c2n(hu:X.A.units+8<cLine)(hK:X.K=Γ.K):OpR X (compareOp .In) (rOf Γ E (M8 false)):=by
 rintro bE s σ H x y v u Q I rx ry ⟨d1,d2,ah,m,S,r1,r2,q⟩;unfold M8 at q;split at q
 · cases r1;cases r2;rw[a3U] at q;exact a9D bE s σ H _ _ v u Q I rx ry ⟨_,_,rfl,rfl,q.ok S rfl⟩
 · obtain⟨h,q⟩:=ifq q;rw[ae] at h;obtain⟨a,vs,rfl,h1,q1⟩:=r2;refine a0A bE s σ H _ _ v u Q I rx ry ⟨a,vs,rfl,.inr (.inl (.inl h1)),O0 r1 h.1,O6 q1 h.2,?_⟩;rw[a3U,a0d r1 h.1 q1 h.2] at q;exact q.ok S rfl
 · split at q
   · rename_i xs e;obtain⟨h,q⟩:=ifq q;rw[ae] at h;obtain⟨a,vs,rfl,_,h1,q1⟩:=S.lst e r2;refine a0A bE s σ H _ _ v u Q I rx ry ⟨a,vs,rfl,.inl (.inl (.inl h1)),O0 r1 h.1,O6 q1 h.2,?_⟩;rw[a3U,a0d r1 h.1 q1 h.2] at q;exact q.ok S rfl
   · rename_i xs e;obtain⟨h,q⟩:=ifq q;rw[ae] at h;obtain⟨a,vs,rfl,_,h1,q1⟩:=S.rdL (l:=xs) (by unfold rdL;rw[e]) r2;refine a0A bE s σ H _ _ v u Q I rx ry ⟨a,vs,rfl,.inl (by rw[hK];exact h1),O0 r1 h.1,O6 q1 h.2,?_⟩;rw[a3U,a0d r1 h.1 q1 h.2] at q;exact q.ok S rfl
   · rename_i bF e;obtain⟨h,q⟩:=ifq q;obtain⟨a,rfl,hm⟩:=r2;obtain⟨H',I',kp,S',hd⟩:=S9 I S e h hm;obtain⟨o,g,h1,_⟩:=a1L kp r1 hd;cases (show u=Value.ref a from ry);refine c2q (hu1 hu) I' g rx λs' fu=>⟨.bl o.isSome,H',fu,rfl,?_⟩;rw[a3U,h1] at q;exact q m H' _ (Pre.refl m) kp S' rfl
   · exact q.elim
 · exact q.elim
theorem b5t(hu:X.A.units+8<cLine)(hK:X.K=Γ.K):OpR X (compareOp .NotIn) (rOf Γ E (M8 true)):=by
 rintro bE s σ H x y v u Q I rx ry ⟨d1,d2,ah,m,S,r1,r2,q⟩;unfold M8 at q;split at q
 · cases r1;cases r2;rw[a3T] at q;exact a5h bE s σ H _ _ v u Q I rx ry ⟨_,_,rfl,rfl,q.ok S rfl⟩
 · obtain⟨h,q⟩:=ifq q;rw[ae] at h;obtain⟨a,vs,rfl,h1,q1⟩:=r2;refine R3 bE s σ H _ _ v u Q I rx ry ⟨a,vs,rfl,.inr (.inl (.inl h1)),O0 r1 h.1,O6 q1 h.2,?_⟩;rw[a3T,a0d r1 h.1 q1 h.2] at q;exact q.ok S rfl
 · split at q
   · rename_i xs e;obtain⟨h,q⟩:=ifq q;rw[ae] at h;obtain⟨a,vs,rfl,_,h1,q1⟩:=S.lst e r2;refine R3 bE s σ H _ _ v u Q I rx ry ⟨a,vs,rfl,.inl (.inl (.inl h1)),O0 r1 h.1,O6 q1 h.2,?_⟩;rw[a3T,a0d r1 h.1 q1 h.2] at q;exact q.ok S rfl
   · rename_i xs e;obtain⟨h,q⟩:=ifq q;rw[ae] at h;obtain⟨a,vs,rfl,_,h1,q1⟩:=S.rdL (l:=xs) (by unfold rdL;rw[e]) r2;refine R3 bE s σ H _ _ v u Q I rx ry ⟨a,vs,rfl,.inl (by rw[hK];exact h1),O0 r1 h.1,O6 q1 h.2,?_⟩;rw[a3T,a0d r1 h.1 q1 h.2] at q;exact q.ok S rfl
   · rename_i bF e;obtain⟨h,q⟩:=ifq q;obtain⟨a,rfl,hm⟩:=r2;obtain⟨H',I',kp,S',hd⟩:=S9 I S e h hm;obtain⟨o,g,h1,_⟩:=a1L kp r1 hd;cases (show u=Value.ref a from ry);refine b5z (hu1 hu) I' g rx λs' fu=>⟨.bl (!o.isSome),H',fu,rfl,?_⟩;rw[a3T,h1] at q;exact q m H' _ (Pre.refl m) kp S' rfl
   · exact q.elim
 · exact q.elim
noncomputable def B.cmp:B->Option CmpOp
 |.eq=>some .Eq|.ne=>some .NotEq|.lt=>some .Lt|.le=>some .LtE|.gt=>some .Gt|.ge=>some .GtE|.isin=>some .In|.notin=>some .NotIn
 |_=>none
noncomputable def B.bin:B->Option Operator
 |.add=>some .Add|.sub=>some .Sub|.mul=>some .Mult|.div=>some .FloorDiv|.mod=>some .Mod|.pow=>some .Pow
 |_=>none
theorem c0J{o:B}{op:Operator}(h:o.bin=some op):OpR X (binaryOp op) (rOf Γ E (op2 o)):=by
 cases o<;>cases h
 · exact c0K
 · exact c0C
 · exact c0E
 · exact c0I
 · exact c0F
 · exact c0D
theorem a2n(hu:X.A.units+8<cLine)(hK:X.K=Γ.K){o:B}(h:o.cmp=some op):OpR X (compareOp op) (rOf Γ E (op2 o)):=by
 cases o<;>cases h
 · exact c2o hu hK
 · exact c2m hu hK
 · exact a8V b9G
 · exact a8V b9H
 · exact a8V b9I
 · exact a8V b9J
 · exact c2n hu hK
 · exact b5t hu hK
theorem c0G (hu:X.A.units+8<cLine) (hK:X.K=Γ.K):IxR X (rOf Γ E ixD):=by
  rintro value slice bE s σ H x y v u Q I rx ry ⟨d1,d2,ah,m,S,r1,r2,q⟩ hs;unfold ixD at q;split at q
  · split at q
    · rename_i d e;obtain⟨a,vs,rfl,h1,q1⟩:=r1;cases r2;obtain⟨w,hw,dn⟩:=q1.at e;exact ix_tup value slice bE s σ H _ _ v u Q I rx ry ⟨a,vs,_,w,rfl,rfl,.inl (.inl h1),hw,q.ok S dn⟩ hs
    · exact q.elim
  · obtain⟨hl,q⟩:=ifq q;split at q
    · rename_i c e;cases r1;cases r2;exact ix_str value slice bE s σ H _ _ v u Q I rx ry ⟨_,_,c,rfl,rfl,by rw[←R9];exact hl,e,q.ok S rfl⟩ hs
    · exact q.elim
  · split at q
    · rename_i xs e;split at q
      · split at q
        · rename_i d e2;obtain⟨a,vs,rfl,_,h1,q1⟩:=S.lst e r1;cases r2;obtain⟨w,hw,dn⟩:=q1.at e2;exact a8F value slice bE s σ H _ _ v u Q I rx ry ⟨a,vs,_,w,rfl,rfl,.inl (.inl h1),hw,q.ok S dn⟩ hs
        · exact q.elim
      · exact q.elim
    · rename_i xs e;split at q
      · split at q
        · rename_i d e2;obtain⟨a,vs,rfl,_,h1,q1⟩:=S.rdL (l:=xs) (by unfold rdL;rw[e]) r1;cases r2;obtain⟨w,hw,dn⟩:=q1.at e2;exact a8F value slice bE s σ H _ _ v u Q I rx ry ⟨a,vs,_,w,rfl,rfl,by rw[hK];exact h1,hw,q.ok S dn⟩ hs
        · exact q.elim
      · exact q.elim
    · rename_i bF e;obtain⟨h,q⟩:=ifq q;split at q
      · rename_i d e2;obtain⟨a,rfl,hm⟩:=r1;obtain⟨H',I',kp,S',hd⟩:=S9 I S e h hm;obtain⟨o,g,h1,h2⟩:=a1L kp r2 hd;obtain⟨w,hw,dn⟩:=h2 d e2;subst hw;cases (show v=Value.ref a from rx);refine ixd_tail (a6T I' g) hs ?_;exact b0b (hu1 hu) I' g ry λw' s' fu r''=>⟨w,H',fu,r'',q m H' _ (Pre.refl m) kp S' dn⟩
      · exact q.elim
    · exact q.elim
  · exact q.elim
where
  ixd_tail {value slice:Expr} {v u:Value} {Q:Value->Shared->Prop} {s:Shared} (hT:s.TypeIs v "dict") (hs:subscripted slice false v u=operate [v,u] (getItem v u)) (h:wpAny (model X.prog X.w) X.A (getItem v u) Q X.xe s):
      wpAny (model X.prog X.w) X.A (subscriptTail value slice v u) Q X.xe s:=by
    unfold subscriptTail;refine wpAny_bind ?_;rw[getitemInPython_of_ne hT.not_modules];refine wpAny_bind (wpAny_specialOf hT PySem.F.slot_dict_getitem.lookup ?_);have cM:wpAny (model X.prog X.w) X.A (subscripted slice false v u) (λr eG=>wpAny (model X.prog X.w) X.A (letTemporaryGo value v r>>=λ_=>pure r) Q X.xe eG) X.xe s:=by rw[hs];exact wpAny_operating (wpAny_mono h (λr eG h₃=>wpAny_bind (wpAny_letTemporaryGo (wpAny_pure h₃))) λ_ _ x=>x)
    first
      |exact wpAny_pure (wpAny_bind cM)
      |exact wpAny_bind (wpAny_pure (wpAny_bind cM))
      |exact wpAny_bind cM
theorem c2l(hK:X.K=Γ.K):SlR X (λx lo hi H Q=>∃d ah m,Sim Γ ah m H/\Rp m H d x/\i9 Γ E m H (slD ah lo hi d) Q):=by
 rintro bE s σ H x v vl vu lo hi sl Q I rx hs pl pu ⟨d,ah,m,S,r,q⟩;unfold slD at q;split at q
 · obtain⟨hl,q⟩:=ifq q;cases r;exact b6B bE s σ H _ v vl vu lo hi sl Q I rx hs pl pu ⟨_,rfl,by rw[←R9];exact hl,q.ok S rfl⟩
 · split at q
   · exact q.elim
   · rename_i hw;obtain⟨a,vs,rfl,h1,q1⟩:=r;refine b6A bE s σ H _ v vl vu lo hi sl Q I rx hs pl pu ⟨a,vs,rfl,.inl (.inl h1),by rw[q1.len];exact hw,λp hp=>q.newt S hp (q1.cut lo hi)⟩
 · split at q
   · rename_i xs e;obtain⟨a,vs,rfl,_,h1,q1⟩:=S.rdL e r;refine b3M bE s σ H _ v vl vu lo hi sl Q I rx hs pl pu ⟨a,vs,rfl,by rw[hK];exact h1,λp hp=>q.newc S hp ⟨_,i8,(q1.cut lo hi).mono (Pre.snoc m p) (Keep.newc hp)⟩⟩
   · exact q.elim
 · exact q.elim
def rBi(Γ:Gm)(E:XK)(b:Bi):List V->Hp->VK->Prop:=λxs H Q=>∃ds ah m,Sim Γ ah m H/\Rps m H ds xs/\i9 Γ E m H (biD b ah ds) Q
theorem a6m{xs:List V}(h:Rps m H [d] xs):∃x,xs=[x]/\Rp m H d x:=by obtain⟨v,t,rfl,q,e⟩:=h;exact⟨v,by rw[show t=[] from e],q⟩
theorem b9s{e:D}{xs:List V}(h:Rps m H [d,e] xs):∃x y,xs=[x,y]/\Rp m H d x/\Rp m H e y:=by obtain⟨v,t,rfl,q,h2⟩:=h;obtain⟨y,rfl,q2⟩:=a6m h2;exact⟨v,y,rfl,q,q2⟩
theorem a0r{b:Bi}{xs:List V}(hb:b≠.max)(rs:Rps m H ds xs)(q:i9 Γ E m H (biD b ah ds) Q):∃d x,ds=[d]/\xs=[x]/\Rp m H d x/\i9 Γ E m H (bi1 b ah d) Q:=by
 cases ds with
 |nil=>exact q.elim
 | cons d l=>
  cases l with
  |nil=>
   obtain⟨x,rfl,r1⟩:=a6m rs;exact⟨d,x,rfl,rfl,r1,q⟩
  |cons e l=>
   unfold biD at q;simp only at q;rw[aA λz=>hb z.1] at q;exact q.elim
theorem a0s{b:Bi}{x:V}(hb:b≠.len)(S:Sim Γ ah m H)(r1:Rp m H (.ref n) x)(q:i9 Γ E m H (bi1 b ah (.ref n)) Q):∃ys a vs,x=.ref a/\SqL Γ.K H a vs/\Rps m H ys vs/\i9 Γ E m H (biL b ah ys) Q:=by
 unfold bi1 at q;simp only at q;split at q
 · rename_i ys e;obtain⟨a,vs,rfl,_,h1,q1⟩:=S.rdL (l:=ys) (by unfold rdL;rw[e]) r1;exact⟨ys,a,vs,rfl,h1,q1,q⟩
 · rename_i ys e;obtain⟨a,vs,rfl,_,h1,q1⟩:=S.rdL (l:=ys) (by unfold rdL;rw[e]) r1;exact⟨ys,a,vs,rfl,h1,q1,q⟩
 · cases b<;>first|exact q.elim|exact absurd rfl hb
 · exact q.elim
theorem c0U(hK:X.K=Γ.K):J2 X (.builtin "len") (rBi Γ E .len):=by
 rintro bE s σ H xs us Q I r ⟨ds,ah,m,S,rs,q⟩;obtain⟨d,x,rfl,rfl,r1,q⟩:=a0r ∅ rs q;have sq:∀{a vs ys},SqL Γ.K H a vs->Rps m H ys vs->l8 (.ref a) (.ref a)->x=.ref a->i9 Γ E m H (biL .len ah ys) Q->_:=fun{a vs ys} h1 q1 _ e q=>a1Q bE s σ H [x] us Q I r ⟨a,vs,by rw[e],.inl (by rw[hK];exact h1),by rw[q1.len];exact q.ok S rfl⟩;cases d with
 |non=>exact q.elim
 |bl b=>exact q.elim
 |int i=>exact q.elim
 |str y=>
  cases r1;unfold bi1 at q;simp only at q;obtain⟨hl,q⟩:=ifq q;exact a5O bE s σ H _ us Q I r ⟨_,rfl,by rw[←R9];exact hl,q.ok S rfl⟩
 |tup l=>
  obtain⟨a,vs,rfl,h1,q1⟩:=r1;exact a1Q bE s σ H _ us Q I r ⟨a,vs,rfl,.inr (.inl (.inl h1)),by rw[q1.len];exact q.ok S rfl⟩
 |ref n=>
  unfold bi1 at q;simp only at q;split at q
  · rename_i ys e;obtain⟨a,vs,rfl,_,h1,q1⟩:=S.rdL (l:=ys) (by unfold rdL;rw[e]) r1;exact sq h1 q1 rfl rfl q
  · rename_i ys e;obtain⟨a,vs,rfl,_,h1,q1⟩:=S.rdL (l:=ys) (by unfold rdL;rw[e]) r1;exact sq h1 q1 rfl rfl q
  · rename_i bF e;obtain⟨h,q⟩:=ifq q;obtain⟨a,rfl,hm⟩:=r1;obtain⟨H',I',kp,S',hd⟩:=S9 I S e h hm;rcases hd with⟨ks,gs,hk,ha,dk⟩|⟨l,ks,gs,e0,_⟩
    · obtain⟨u,rfl,ru⟩:=V1 r;cases (show u=Value.ref a from ru);refine c0O I' (.inl ha) λt s' fu=>⟨.int ↥gs,H',fu,⟨t,rfl⟩,?_⟩;rw[←Paired.length dk];exact q m H' _ (Pre.refl m) kp S' rfl
    · cases e0
  · exact q.elim
theorem c0S:J2 X (.type "str") (rBi Γ E .str):=by
 rintro bE s σ H xs us Q I r ⟨ds,ah,m,S,rs,q⟩;obtain⟨d,x,rfl,rfl,r1,q⟩:=a0r ∅ rs q;cases d<;>first|exact q.elim|skip
 · unfold bi1 at q;simp only at q;obtain⟨hl,q⟩:=ifq q;cases r1;exact a5N bE s σ H _ us Q I r ⟨_,rfl,hl,q.ok S rfl⟩
 · obtain⟨_,_,_,_,_,_,q⟩:=a0s ∅ S r1 q;exact q.elim
theorem c0V:J2 X (.type "int") (rBi Γ E .int):=by
 rintro bE s σ H xs us Q I r ⟨ds,ah,m,S,rs,q⟩;obtain⟨d,x,rfl,rfl,r1,q⟩:=a0r ∅ rs q;cases d<;>first|exact q.elim|skip
 · cases r1;exact a4K bE s σ H _ us Q I r (.inr ⟨_,rfl,q.ok S rfl⟩)
 · cases r1;exact a4K bE s σ H _ us Q I r (.inl ⟨_,rfl,q.ok S rfl⟩)
 · unfold bi1 at q;simp only at q;obtain⟨hl,q⟩:=ifq q;split at q
   · rename_i n e;cases r1;exact a5P bE s σ H _ us Q I r ⟨_,n,rfl,hl,e,q.ok S rfl⟩
   · exact q.elim
 · obtain⟨_,_,_,_,_,_,q⟩:=a0s ∅ S r1 q;exact q.elim
theorem b8r(hK:X.K=Γ.K):J2 X (.type "list") (rBi Γ E .list):=by
 rintro bE s σ H xs us Q I r ⟨ds,ah,m,S,rs,q⟩;obtain⟨d,x,rfl,rfl,r1,q⟩:=a0r ∅ rs q;cases d<;>first|exact q.elim|skip
 · obtain⟨a,vs,rfl,h1,q1⟩:=r1;exact a1P bE s σ H _ us Q I r ⟨a,vs,rfl,.inr (.inl (.inl h1)),λp hp=>i9.newc q S hp ⟨_,i8,q1.mono (Pre.snoc m p) (Keep.newc hp)⟩⟩
 · obtain⟨ys,a,vs,rfl,h1,q1,q⟩:=a0s ∅ S r1 q;exact a1P bE s σ H _ us Q I r ⟨a,vs,rfl,.inl (by rw[hK];exact h1),λp hp=>i9.newc q S hp ⟨_,i8,q1.mono (Pre.snoc m p) (Keep.newc hp)⟩⟩
theorem b5E(hK:X.K=Γ.K):J2 X (.type "tuple") (rBi Γ E .tuple):=by
 rintro bE s σ H xs us Q I r ⟨ds,ah,m,S,rs,q⟩;obtain⟨d,x,rfl,rfl,r1,q⟩:=a0r ∅ rs q;cases d<;>first|exact q.elim|skip
 · obtain⟨a,vs,rfl,h1,q1⟩:=r1;exact a0R bE s σ H _ us Q I r ⟨a,vs,rfl,.inr ⟨.inl (.inl h1),i9.ok q S ⟨a,vs,rfl,h1,q1⟩⟩⟩
 · obtain⟨ys,a,vs,rfl,h1,q1,q⟩:=a0s ∅ S r1 q;exact a0R bE s σ H _ us Q I r ⟨a,vs,rfl,.inl ⟨by rw[hK];exact h1,λp hp=>i9.newt q S hp q1⟩⟩
theorem b1b{m:List Addr}{H:Hp}:∀{l:List D} {bF:List (D×D)} {vs:List V},a9y l=some bF->Rps m H l vs->∃gs,PrT H vs gs/\DK m H bF gs
 |[],bF,vs,h,r=>by cases h;rw[show vs=[] from r];exact⟨[],.nil,.nil⟩
 |d::l,bF,vs,h,⟨v,t,e,q1,q2⟩=>by
  unfold a9y at h;split at h
  · rename_i e0;cases e0
  · rename_i k x r e0;cases e0;obtain⟨hk,h⟩:=ifs h;obtain⟨kvs',h1,rfl⟩:=Option.map_eq_some_iff.mp h;obtain⟨gs,g1,g2⟩:=b1b h1 q2;obtain⟨kk,hk⟩:=Option.isSome_iff_exists.mp hk;obtain⟨a,ws,rfl,ha,rs⟩:=q1;obtain⟨y,z,rfl,r1,r2⟩:=b9s rs;have:=W7 hk r1;subst this;rw[e];exact⟨(kk,z)::gs,.cons ⟨a,rfl,ha⟩ g1,.cons ⟨hk,r2⟩ g2⟩
  · cases h
theorem b2V(h:DK m H bF gs):∀{bR:List (D×D)} {ag:List (Key×V)},DK m H bR ag->DK m H (bF.foldl (λa p=>a0V a p.1 p.2) bR) (W5 ag gs):=by
 unfold DK at h
 induction h with
 |nil=>exact λr=>r
 |cons h t ih=>exact λr=>ih (DK.put r h.1 h.2)
theorem b8s(hc:X.calm=true)(hK:X.K=Γ.K):J2 X (.type "dict") (rBi Γ E .dict):=by
 rintro bE s σ H xs us Q I r ⟨ds,ah,m,S,rs,q⟩;obtain⟨d,x,rfl,rfl,r1,q⟩:=a0r ∅ rs q;cases d<;>first|exact q.elim|skip
 obtain⟨ys,a,vs,rfl,h1,q1,q⟩:=a0s ∅ S r1 q;unfold biL at q;simp only at q;split at q
 · rename_i bF e2;obtain⟨gs,g1,g2⟩:=b1b e2 q1;exact a5Q hc bE s σ H _ us Q I r ⟨a,vs,gs,rfl,by rw[hK];exact h1,g1,λd hd=>q.newc S hd (.inl ⟨_,i8,(b2V g2 .nil).mono (Pre.snoc m d) (Keep.newc (m:=m) hd).im⟩)⟩
 · exact q.elim
theorem c0X(hc:X.calm=true)(hK:X.K=Γ.K):J2 X (.builtin "all") (rBi Γ E .all):=by
 rintro bE s σ H xs us Q I r ⟨ds,ah,m,S,rs,q⟩;obtain⟨d,x,rfl,rfl,r1,q⟩:=a0r ∅ rs q;cases d<;>first|exact q.elim|skip
 obtain⟨ys,a,vs,rfl,h1,q1,q⟩:=a0s ∅ S r1 q;unfold biL at q;simp only at q;split at q
 · rename_i bs e2;rw[a4Z e2 q1] at h1;exact b3c hc bE s σ H _ us Q I r ⟨a,bs,rfl,by rw[hK];exact h1,q.ok S rfl⟩
 · exact q.elim
theorem c0W(hc:X.calm=true)(hK:X.K=Γ.K):J2 X (.builtin "any") (rBi Γ E .any):=by
 rintro bE s σ H xs us Q I r ⟨ds,ah,m,S,rs,q⟩;obtain⟨d,x,rfl,rfl,r1,q⟩:=a0r ∅ rs q;cases d<;>first|exact q.elim|skip
 obtain⟨ys,a,vs,rfl,h1,q1,q⟩:=a0s ∅ S r1 q;unfold biL at q;simp only at q;split at q
 · rename_i bs e2;rw[a4Z e2 q1] at h1;exact b3b hc bE s σ H _ us Q I r ⟨a,bs,rfl,by rw[hK];exact h1,q.ok S rfl⟩
 · exact q.elim
theorem c0T(hc:X.calm=true):J2 X (.builtin "max") (rBi Γ E .max):=by
 rintro bE s σ H xs us Q I r ⟨ds,ah,m,S,rs,q⟩;cases ds with
 |nil=>exact q.elim
 | cons d l=>
  cases l with
  |nil=>
   obtain⟨x,rfl,r1⟩:=a6m rs;cases d<;>first|exact q.elim|skip
   obtain⟨_,_,_,_,_,_,q⟩:=a0s ∅ S r1 q;exact q.elim
  |cons e l=>
   unfold biD at q;simp only at q;obtain⟨z,q⟩:=ifq q;obtain⟨-,rfl⟩:=z;obtain⟨x,y,rfl,r1,r2⟩:=b9s rs;cases d<;>first|exact q.elim|skip
   cases e<;>first|exact q.elim|skip
   cases r1;cases r2;exact b0e hc bE s σ H _ us Q I r ⟨_,_,rfl,q.ok S rfl⟩
def rMt(Γ:Gm)(E:XK)(b:Mt):V->List V->Hp->VK->Prop:=λx xs H Q=>∃d ds ah m,Sim Γ ah m H/\Rp m H d x/\Rps m H ds xs/\i9 Γ E m H (mtD b ah d ds) Q
theorem b1D:MtR X "list.append" (rMt Γ E .append):=by
 rintro bE s σ H x xs v us Q I rx r ⟨d,ds,ah,m,S,rd,rs,q⟩;unfold mtD at q;split at q<;>(try exact q.elim)
 · rename_i n e0;obtain⟨y,rfl,r1⟩:=a6m rs;split at q
   · rename_i l e;obtain⟨hl,q⟩:=ifq q;obtain⟨a,vs,rfl,hm,h1,q1⟩:=S.lst e rd;refine a4w bE s σ H _ _ v us Q I rx r ⟨a,vs,y,rfl,rfl,h1,by rw[q1.len,←R9];exact hl,?_⟩;have kp:Keep m m H (upd H a (.lst (vs++[y]))):=Keep.put hm h1 λz=>z;exact q m _ _ (Pre.refl m) kp (S.write hm h1 (λz=>z) ⟨_,i8,(q1.snoc r1).mono (Pre.refl m) kp⟩) rfl
   · contradiction
   · exact q.elim
theorem b1C:MtR X "list.extend" (rMt Γ E .extend):=by
 rintro bE s σ H x xs v us Q I rx r ⟨d,ds,ah,m,S,rd,rs,q⟩;unfold mtD at q;split at q<;>(try exact q.elim)
 · rename_i n e0;obtain⟨y,rfl,r1⟩:=a6m rs;split at q
   · contradiction
   · rename_i l e;split at q
     · split at q
       · rename_i ys e2;obtain⟨hl,q⟩:=ifq q;obtain⟨a,vs,rfl,hm,h1,q1⟩:=S.lst e rd;obtain⟨b,ws,rfl,dW,h2,q2⟩:=S.lst e2 r1;refine a9I bE s σ H _ _ v us Q I rx r ⟨a,b,vs,ws,rfl,rfl,h1,h2,by rw[q1.len,q2.len,←R9];exact hl,?_⟩;have kp:Keep m m H (upd H a (.lst (vs++ws))):=Keep.put hm h1 λz=>z;exact q m _ _ (Pre.refl m) kp (S.write hm h1 (λz=>z) ⟨_,i8,(q1.app q2).mono (Pre.refl m) kp⟩) rfl
       · exact q.elim
     · exact q.elim
   · exact q.elim
theorem b4G:MtR X "str.split" (rMt Γ E .split):=by
 rintro bE s σ H x xs v us Q I rx r ⟨d,ds,ah,m,S,rd,rs,q⟩;unfold mtD at q;split at q<;>(try exact q.elim)
 · simp only at q;obtain⟨h,q⟩:=ifq q;obtain⟨y,rfl,r1⟩:=a6m rs;cases rd;cases r1;refine b1y bE s σ H _ _ v us Q I rx r ⟨_,_,rfl,rfl,h.1,by rw[←R9];exact h.2,λp hp=>q.newc S hp ⟨_,i8,Rps.strs⟩⟩
theorem b1B:MtR X "str.startswith" (rMt Γ E .starts):=by
 rintro bE s σ H x xs v us Q I rx r ⟨d,ds,ah,m,S,rd,rs,q⟩;unfold mtD at q;split at q<;>(try exact q.elim)
 · obtain⟨y,rfl,r1⟩:=a6m rs;cases rd;cases r1;exact a9H bE s σ H _ _ v us Q I rx r ⟨_,_,rfl,rfl,q.ok S rfl⟩
theorem b7w(hK:X.K=Γ.K):MtR X "str.join" (rMt Γ E .join):=by
 rintro bE s σ H x xs v us Q I rx r ⟨d,ds,ah,m,S,rd,rs,q⟩;unfold mtD at q;split at q<;>(try exact q.elim)
 · simp only at q;split at q
   · rename_i l e;split at q
     · rename_i ts e2;obtain⟨hj,q⟩:=ifq q;obtain⟨y,rfl,r1⟩:=a6m rs;obtain⟨a,vs,rfl,_,h1,q1⟩:=S.rdL e r1;rw[a6k e2 q1] at h1;cases rd;exact b4E bE s σ H _ _ v us Q I rx r ⟨_,a,ts,rfl,rfl,by rw[hK];exact h1,hj,q.ok S rfl⟩
     · exact q.elim
   · exact q.elim
theorem c1O(hu:X.A.units+8<cLine):b8Q X (λo i v H Q=>∃d1 d2 d3 ah m,Sim Γ ah m H/\Rp m H d1 o/\Rp m H d2 i/\Rp m H d3 v/\k8 Γ E m H (a0L ah d1 d2 d3) (λ_ _ _ H'=>Q H')):=by
 rintro bE s σ H o i v ov iv u Q I ro ri rv ⟨d1,d2,d3,ah,m,S,r1,r2,r3,q⟩;unfold a0L at q;split at q
 · split at q
   · rename_i xs e;split at q
     · rename_i k;split at q
       · rename_i j e2;obtain⟨a,vs,rfl,hm,h1,q1⟩:=S.lst e r1;cases r2;refine b0E bE s σ H _ _ _ ov iv u Q I ro ri rv ⟨a,vs,_,j,rfl,rfl,h1,by rw[q1.len];exact e2,?_⟩;have kp:Keep m m H (upd H a (.lst (vs.set j v))):=Keep.put hm h1 λz=>z;exact q m _ (Pre.refl m) kp (S.write hm h1 (λz=>z) ⟨_,i8,(q1.set j r3).mono (Pre.refl m) kp⟩)
       · exact q.elim
     · exact q.elim
   · rename_i bF e;split at q
     · rename_i h;obtain⟨a,rfl,hm⟩:=r1;cases (show ov=Value.ref a from ro);obtain⟨H',I',kp,S',hd⟩:=S9 I S e h.1 hm;have r3':=r3.mono (Pre.refl m) kp;rcases hd with⟨ks,gs,hk,ha,dk⟩|⟨l,ks,gs,rfl,hk,ha,dt⟩
       · have kp2:Keep m m H' (upd H' a (.dK (Q1 gs ks v))):=Keep.put hm ha λz=>z;refine a4G (v:=v) (H':=upd H' a (.dK (Q1 gs ks v))) (hu1 hu) I' (.inl ⟨gs,ks,ha,W7 hk r2,by rw[←Paired.length dk,←R9];exact h.2,rfl⟩) ri rv λs' fu=>⟨_,fu,?_⟩;exact q m _ (Pre.refl m) (kp.trans kp2) (S'.write hm ha (λz=>z) (.inl ⟨_,i8,(dk.put hk r3').mono (Pre.refl m) kp2.im⟩))
       · have kp2:Keep m m H' (upd H' a (.dT (Q1 gs ks v))):=Keep.put hm ha λz=>z;obtain⟨b,vs,rfl,hb,rs⟩:=r2;have hv:=a3G hk rs;subst hv;refine a4G (v:=v) (H':=upd H' a (.dT (Q1 gs ks v))) (hu1 hu) I' (.inr ⟨gs,ks,b,ha,rfl,kp.tup hb,by rw[←Paired.length dt,←R9];exact h.2,rfl⟩) ri rv λs' fu=>⟨_,fu,?_⟩;exact q m _ (Pre.refl m) (kp.trans kp2) (S'.write hm ha (λz=>z) (.inr ⟨_,i8,(dt.put hk r3').mono (Pre.refl m) kp2.im⟩))
     · exact q.elim
   · exact q.elim
 · exact q.elim
theorem Fl.put(r:Rp m H d v){fs:List (Str×D)}{gs:List (Str×V)}(h:Fl m H fs gs):Fl m H (a4s f d fs) (W4 f v gs):=by
 induction h with
 |nil=>exact .cons ⟨rfl,r⟩ .nil
 | @cons p q ps qs h t ih=>
  obtain⟨n,x⟩:=p;obtain⟨n',x'⟩:=q;have e:n=n':=h.1;subst e;unfold a4s W4;split
  · exact .cons ⟨rfl,r⟩ t
  · exact .cons h ih
theorem Fl.look{fs:List (Str×D)}{gs:List (Str×V)}(h:Fl m H fs gs)(e:fs.lookup f=some d):∃v,gs.lookup f=some v/\Rp m H d v:=by
 induction h with
 |nil=>cases e
 | @cons p q ps qs h t ih=>
  obtain⟨n,x⟩:=p;obtain⟨n',x'⟩:=q;have e1:n=n':=h.1;subst e1;rw[lookup_cons] at e⊢;cases z:f==n with
  |true=>rw[z] at e;cases e;exact⟨x',rfl,h.2⟩
  |false=>rw[z] at e;exact ih e
end
set_option genInjectivity false
mutual
inductive Pat where
  |nm (i:Nat)|tp (ps:Pats)
inductive Pats where
  |nil|cons (p:Pat) (r:Pats)
end
mutual
inductive E where
  |v (i:Nat)|k (d:D)|bin (o:B) (a b:E)|isN (a:E)|notN (a:E)|neg (a:E)|nt (a:E)|an (a b:E)|orr (a b:E)|chn (o p:B) (a b c:E)
  |ix (a b:E)|sl (a:E) (lo hi:O)|fld (a:E) (f:Str)|lst (es:Es)|tup (es:Es)|dnew|call (f:Nat) (es:Es)|mk (c:Nat) (es:Es)|bi (b:Bi) (es:Es)|mt (b:Mt) (o:E) (es:Es)
  |ins (k:Nat) (a:E)|comp (p:Pat) (it:I) (n:Nat) (fr:List Nat) (t:T) (e:E)|gin (neg:Bool) (a:E) (ds:List D)|gdin (neg:Bool) (a:E) (bF:List (D×D))|gdix (a:E) (bF:List (D×D))|dlit (bF:List (D×D))|dget (a k x:E)
inductive Es where
  |nil|cons (e:E) (r:Es)
inductive T where
  |yes|val (e:E)|cmp (o:B) (a b:E)|isN (a:E)|notN (a:E)|chn (o p:B) (a b c:E)|an (a b:T)|orr (a b:T)|nt (a:T)
inductive O where
  |no|at(e:E)
inductive I where
  |seq (e:E)|rng1 (a:E)|enum (e:E)|zip (a b:E)|zipn (a b:E)
end
mutual
inductive S where
  |set (i:Nat) (e:E)|ex (e:E)|ret (e:E)|iff (t:T) (a b:Ss)|for (p:Pat) (it:I) (b:Ss)|whl (t:T) (b:Ss)|pat (p:Pat) (e:E)|bad|six (a i v:E)|sfl (a:E) (f:Str) (v:E)
inductive Ss where
  |nil|cons (s:S) (r:Ss)
end
set_option genInjectivity true
abbrev Es.o(a:E):Es:=.cons a .nil
abbrev Ss.o(a:S):Ss:=.cons a .nil
abbrev E.i(n:Int):E:=.k (.int n)
abbrev E.s(x:Str):E:=.k (.str x)
inductive Out where
 |nx (env:u9)|rt (d:D)
abbrev CF:=Nat->List D->AH->R D
structure CT where
 init:Nat->Nat
mutual
def F7:Pat->D->u9->Option u9
  |.nm i,d,env=>some (env.set i (some d))
  | .tp ps,d,env=>match d with
    |.tup ds=>N4 ps ds env
    |_=>none
def N4:Pats->List D->u9->Option u9
  | .nil,ds,env=>match ds with
    |[]=>some env
    |_::_=>none
  | .cons p r,ds,env=>match ds with
    |[]=>none
    | d::t=>match F7 p d env with
      |some bI=>N4 r t bI
      |none=>none
end
noncomputable def gOk(g:List (Nat×Cell))(h:AH):Bool:=g.all λp=>decide (h[p.1]? =some p.2)
noncomputable def asB(r:R D):R Bool:=r.bind λd h=>match d with
 |.bl b=>.ok b h
 |_=>.no
def K8(g:List (Nat×Cell))(p:Pat)(body:u9->AH->R Out):List D->u9->AH->R Out
 |[],env,h=>if gOk g h=true then .ok (.nx env) h else .no
 | x::r,env,h=>if gOk g h=true then(match F7 p x env with
  |none=>.no
  |some bI=>(body bI h).bind λo h'=>match o with
   |.nx env''=>K8 g p body r env'' h'
   |.rt d=>.ok (.rt d) h') else .no
def Q0(g:List (Nat×Cell))(p:Pat)(t:u9->AH->R Bool)(cN:u9->AH->R D)(env0:u9):List D->List D->AH->R (List D)
 |[],bR,h=>if gOk g h=true then .ok bR h else .no
 | x::r,bR,h=>if gOk g h=true then(match F7 p x env0 with
  |none=>.no
  |some env=>(t env h).bind λb h1=>if b=true then((cN env h1).bind λd h2=>if ↥bR<SL then Q0 g p t cN env0 r (bR++[d]) h2 else .no)
   else Q0 g p t cN env0 r bR h1) else .no
def a7k:Nat:=1000000
noncomputable def a5W(t:u9->AH->R Bool)(body:u9->AH->R Out):Nat->u9->AH->R Out
 |0,_,_=>.no
 |n+1,env,h=>(t env h).bind λb h1=>if b=true then((body env h1).bind λo h'=>match o with
  |.nx env''=>a5W t body n env'' h'
  |.rt d=>.ok (.rt d) h') else .ok (.nx env) h1
noncomputable def u5:Nat->List D->List D
 |_,[]=>[]
 |n,x::r=>.tup [.int n,x]::u5 (n+1) r
noncomputable def X5(x:Str):List D:=x.cps.toList.map λc=>.str ⟨#[c]⟩
noncomputable def b0N(lo:Int)(n:Nat):List D:=(List.range n).map λi=>.int (lo+(i:Nat))
abbrev Its:=List D×List (Nat×Cell)
def M3(h:AH):D->R Its
 |.str x=>.ok (X5 x,[]) h
 |.tup l=>.ok (l,[]) h
 |.ref n=>match h[n]? with
  |some (.lst l)=>.ok (l,[(n,.lst l)]) h
  |some (.rol l)=>.ok (l,[(n,.rol l)]) h
  |_=>.no
 |_=>.no
def b0M(h:AH):D->D->R Its
 |.int i,.int j=>if a3i i=true/\a3i j=true then .ok (b0N i (j-i).toNat,[]) h else .no
 |_,_=>.no
def T8(h:AH):D->R Its
 |.ref n=>match h[n]? with
  |some (.lst l)=>.ok (u5 0 l,[(n,.lst l)]) h
  |some (.rol l)=>.ok (u5 0 l,[(n,.rol l)]) h
  |_=>.no
 |_=>.no
noncomputable def Z8(h:AH)(n:Nat):Option (List D×Cell):=match h[n]? with
 |some (.lst l)=>some (l,.lst l)
 |some (.rol l)=>some (l,.rol l)
 |_=>none
noncomputable def Q8:List D->List D->List D
 |x::xs,y::ys=>.tup [x,y]::Q8 xs ys
 |_,_=>[]
def a5T(h:AH):D->D->R Its
 |.ref i,.ref j=>match Z8 h i,Z8 h j with
  |some a,some b=>.ok (Q8 a.1 b.1,[(i,a.2),(j,b.2)]) h
  |_,_=>.no
 |_,_=>.no
def a9g(h:AH)(x y:D):R Its:=match x with
 | .tup l=>(match y with
  |.ref j=>(match Z8 h j with
   |some b=>.ok (Q8 l b.1,[(j,b.2)]) h
   |none=>.no)
  |_=>.no)
 |x=>a5T h x y
noncomputable def a1E(h:AH)(k:Nat)(x:D):Option Bool:=match x with
 |.bl _=>if k<=1 then some true else none
 |.int _=>if k=1 then some true else if k=0 then some false else none
 |.str _=>if k=4 then some true else none
 |.tup _=>if k=3 then some true else none
 |.ref n=>(match h[n]? with
  |some (.lst _)=>if k=2 then some true else none
  |_=>none)
 |.non=>none
noncomputable def F0(n:Nat)(fr:List Nat)(env:u9):u9:=List.replicate n none++fr.map λj=>(env[j]?).join
noncomputable def a8K(r:R D):R (Option Int):=r.bind λd h=>match d with
 |.int i=>.ok (some i) h
 |_=>.no
section
variable(ct:CT)(c:CF)
mutual
def ev:E->u9->AH->R D
  | .v i,env,h=>match env[i]? with
    |some (some d)=>.ok d h
    |_=>.no
  |.k d,_,h=>.ok d h
  |.bin o a b,env,h=>(ev a env h).bind λx h1=>(ev b env h1).bind λy h2=>op2 o h2 x y
  |.isN a,env,h=>(ev a env h).bind λx h1=>.ok (.bl (decide (x=.non))) h1
  |.notN a,env,h=>(ev a env h).bind λx h1=>.ok (.bl (!decide (x=.non))) h1
  | .neg a,env,h=>(ev a env h).bind λx h1=>match x with
    |.int i=>.ok (.int (-i)) h1
    |_=>.no
  |.nt a,env,h=>(asB (ev a env h)).bind λb h1=>.ok (.bl (!b)) h1
  |.an a b,env,h=>(asB (ev a env h)).bind λx h1=>if x=true then ev b env h1 else .ok (.bl false) h1
  |.orr a b,env,h=>(asB (ev a env h)).bind λx h1=>if x=true then .ok (.bl true) h1 else ev b env h1
  |.chn o p a b e,env,h=>(ev a env h).bind λx h1=>(ev b env h1).bind λy h2=>(asB (op2 o h2 x y)).bind λk h3=>if k=true then(ev e env h3).bind λz h4=>op2 p h4 y z else .ok (.bl false) h3
  |.ix a b,env,h=>(ev a env h).bind λx h1=>(ev b env h1).bind λy h2=>ixD h2 x y
  |.sl a lo hi,env,h=>(ev a env h).bind λx h1=>(evo lo env h1).bind λl h2=>(evo hi env h2).bind λu h3=>slD h3 l u x
  |.fld a f,env,h=>(ev a env h).bind λx h1=>W8 h1 f x
  |.lst es,env,h=>(evs es env h).bind λds h1=>if ↥ds<=SL then v8 (.lst ds) h1 else .no
  |.tup es,env,h=>(evs es env h).bind λds h1=>if ↥ds<=SL then .ok (.tup ds) h1 else .no
  |.dnew,_,h=>v8 (.dict []) h
  |.call f es,env,h=>(evs es env h).bind λds h1=>c f ds h1
  | .mk k es,env,h=>(evs es env h).bind λds h1=>(c (ct.init k) (.ref ↥h1::ds) (h1++[.obj k []])).bind λr h2=>match r with
    |.non=>.ok (.ref ↥h1) h2
    |_=>.no
  |.bi b es,env,h=>(evs es env h).bind λds h1=>biD b h1 ds
  |.mt b o es,env,h=>(ev o env h).bind λx h1=>if mtT b h1 x=true then(evs es env h1).bind λds h2=>mtD b h2 x ds else .no
  | .ins k a,env,h=>(ev a env h).bind λx h1=>match a1E h1 k x with
    |some b=>.ok (.bl b) h1
    |none=>.no
  |.comp p it n fr t e,env,h=>(evi it env h).bind λx h1=>(Q0 x.2 p (tst t) (ev e) (F0 n fr env) x.1 [] h1).bind λds h2=>v8 (.lst ds) h2
  |.gin neg a ds,env,h=>(ev a env h).bind λx h1=>if y7 x=true/\ds.all y7=true then .ok (.bl (inD x ds !=neg)) h1 else .no
  |.gdin neg a bF,env,h=>(ev a env h).bind λx h1=>if(K7 x).isSome=true then .ok (.bl ((o0 bF x).isSome !=neg)) h1 else .no
  | .gdix a bF,env,h=>(ev a env h).bind λx h1=>if(K7 x).isSome=true then(match o0 bF x with
    |some d=>.ok d h1
    |none=>.no) else .no
  |.dlit bF,_,h=>v8 (.dict bF) h
  |.dget a k x,env,h=>(ev a env h).bind λo h1=>if b1T h1 o=true then(ev k env h1).bind λy h2=>(ev x env h2).bind λz h3=>a6U h3 o y z else .no
def evs:Es->u9->AH->R (List D)
  |.nil,_,h=>.ok [] h
  |.cons e r,env,h=>(ev e env h).bind λd h1=>(evs r env h1).bind λds h2=>.ok (d::ds) h2
def tst:T->u9->AH->R Bool
  |.yes,_,h=>.ok true h
  |.val e,env,h=>asB (ev e env h)
  |.cmp o a b,env,h=>asB ((ev a env h).bind λx h1=>(ev b env h1).bind λy h2=>op2 o h2 x y)
  |.isN a,env,h=>(ev a env h).bind λx h1=>.ok (decide (x=.non)) h1
  |.notN a,env,h=>(ev a env h).bind λx h1=>.ok (!decide (x=.non)) h1
  |.chn o p a b e,env,h=>asB ((ev a env h).bind λx h1=>(ev b env h1).bind λy h2=>(asB (op2 o h2 x y)).bind λk h3=>if k=true then(ev e env h3).bind λz h4=>op2 p h4 y z else .ok (.bl false) h3)
  |.an a b,env,h=>(tst a env h).bind λx h1=>if x=true then tst b env h1 else .ok false h1
  |.orr a b,env,h=>(tst a env h).bind λx h1=>if x=true then .ok true h1 else tst b env h1
  |.nt a,env,h=>(tst a env h).bind λx h1=>.ok (!x) h1
def evo:O->u9->AH->R (Option Int)
  |.no,_,h=>.ok none h
  |.at e,env,h=>a8K (ev e env h)
def evi:I->u9->AH->R Its
  |.seq e,env,h=>(ev e env h).bind λd h1=>M3 h1 d
  |.rng1 a,env,h=>(ev a env h).bind λd h1=>b0M h1 (.int 0) d
  |.enum e,env,h=>(ev e env h).bind λd h1=>T8 h1 d
  |.zip a b,env,h=>(ev a env h).bind λx h1=>(ev b env h1).bind λy h2=>a9g h2 x y
  |.zipn a b,env,h=>(ev a env h).bind λx h1=>(ev b env h1).bind λy h2=>a5T h2 x y
end
mutual
def ex:S->u9->AH->R Out
  |.set i e,env,h=>(ev ct c e env h).bind λd h1=>.ok (.nx (env.set i (some d))) h1
  |.ex e,env,h=>(ev ct c e env h).bind λ_ h1=>.ok (.nx env) h1
  |.ret e,env,h=>(ev ct c e env h).bind λd h1=>.ok (.rt d) h1
  |.iff t a b,env,h=>(tst ct c t env h).bind λx h1=>if x=true then exs a env h1 else exs b env h1
  |.for p it b,env,h=>(evi ct c it env h).bind λx h1=>K8 x.2 p (exs b) x.1 env h1
  |.whl t b,env,h=>a5W (tst ct c t) (exs b) a7k env h
  | .pat p e,env,h=>(ev ct c e env h).bind λd h1=>match F7 p d env with
    |some bI=>.ok (.nx bI) h1
    |none=>.no
  |.bad,_,_=>.no
  |.six a i v,env,h=>(ev ct c v env h).bind λx h1=>(ev ct c a env h1).bind λo h2=>(ev ct c i env h2).bind λk h3=>(a0L h3 o k x).bind λ_ h4=>.ok (.nx env) h4
  |.sfl a f v,env,h=>(ev ct c v env h).bind λx h1=>(ev ct c a env h1).bind λo h2=>(a4Y h2 o f x).bind λ_ h3=>.ok (.nx env) h3
def exs:Ss->u9->AH->R Out
  |.nil,env,h=>.ok (.nx env) h
  | .cons s r,env,h=>(ex s env h).bind λo h1=>match o with
    |.nx bI=>exs r bI h1
    |.rt d=>.ok (.rt d) h1
end
end
structure Fn where
 np:Nat
 ns:Nat
 gc:Nat
 body:Ss
noncomputable def Cell.flat:Cell->Bool
 |.lst l=>D.flats l
 |.dict l=>l.all λp=>p.1.flat&&p.2.flat
 |_=>false
def gcR (n:Nat) (h:AH):R D->R D
 | .ok d h'=>if n=0 then .ok d h' else if n=1 then(if h'.take ↥h=h/\d.flat=true then .ok d h else .no)
  else(match d with
   |.ref k=>(match h'[k]? with
    |some c=>if h'.take ↥h=h/\↥h<=k/\c.flat=true then .ok (.ref ↥h) (h++[c]) else .no
    |none=>.no)
   |_=>.no)
 |.no=>.no
def b5(ct:CT)(F:Nat->Option Fn):Nat->CF
 |0=>λ_ _ _=>.no
 | k+1=>λf ds h=>match F f with
  |none=>.no
  |some fd=>if ↥ds=fd.np then gcR fd.gc h (match exs ct (b5 ct F k) fd.body (ds.map some++List.replicate (fd.ns-fd.np) none) h with
   |.ok (.nx _) h'=>.ok .non h'
   |.ok (.rt d) h'=>.ok d h'
   |.no=>.no) else .no
structure GT where
 fn:List (Str×Nat×Nat)
 scal:List (Str×D)
 tups:List (Str×List D)
 dicts:List (Str×List (D×D))
 obj:List (Str×Nat)
 atts:List Str
 blt:List Str
noncomputable def c0Y:Operator->Option B
 |.Add=>some .add|.Sub=>some .sub|.Mult=>some .mul|.FloorDiv=>some .div|.Mod=>some .mod|.Pow=>some .pow
 |_=>none
noncomputable def a7Y:CmpOp->Option B
 |.Eq=>some .eq|.NotEq=>some .ne|.Lt=>some .lt|.LtE=>some .le|.Gt=>some .gt|.GtE=>some .ge|.In=>some .isin|.NotIn=>some .notin
 |_=>none
noncomputable def b1R(sc:Scope)(x:Str):Bool:=match sc.names.lookup x with
 |some .local=>true|some .cell=>true|some .free=>true
 |_=>false
noncomputable def Q3(sc:Scope)(x:Str):Bool:=decide (sc.names.lookup x=some .globalImplicit)&&decide (x≠"__debug__")&&decide (x≠"__name__")
def slot(N:List Str)(sc:Scope)(x:Str):Option Nat:=if b1R sc x&&decide (x≠"__debug__")&&decide (x≠"__classdict__") then N.idxOf? x else none
noncomputable def b1S(bV:Bool)(sc:Scope)(x:Str):Bool:=match sc.names.lookup x with
 |some .local=>true|some .cell=>bV
 |_=>false
def a3l(bV:Bool)(N:List Str)(sc:Scope)(x:Str):Option Nat:=if b1S bV sc x then N.idxOf? x else none
noncomputable def b8v(x:Str):Option Bi:=if x="len" then some .len else if x="str" then some .str else if x="int" then some .int else if x="tuple" then some .tuple else if x="list" then some .list
 else if x="all" then some .all else if x="any" then some .any else if x="max" then some .max else if x="dict" then some .dict else none
noncomputable def b7v(x:Str):Option Mt:=if x="append" then some .append else if x="extend" then some .extend else if x="split" then some .split else if x="join" then some .join else if x="startswith" then some .starts else none
noncomputable def v7:Expr->Bool
 |.Starred _ _=>false
 |_=>true
noncomputable def a0W:Expr->Bool
 |.Call (.Name _ _) [] [] _=>false
 |_=>true
noncomputable def a2T:Expr->Bool
 |.Slice .. =>false
 |_=>true
noncomputable def a1z:Expr->Bool
 |.Set .. =>false
 |_=>true
noncomputable def a8u(sc scope:Scope):Scope:={scope with names:=scope.names.map fun(n,k)=>if(k==NameKind.free&&sc.kind==.function&&sc.names.lookup n==some .cell) then(n,NameKind.cell) else(n,k)}
noncomputable def b6T:Expr->Bool
 |.Name .. =>true|.Call .. =>true|.Subscript .. =>true|.Attribute .. =>true
 |_=>false
mutual
def a8b (bV:Bool) (N:List Str) (sc:Scope):Nat->Expr->Option Pat
  |0,_=>none
  | n+1,e=>match e with
    |.Name x _=>(a3l bV N sc x).map .nm
    |.Tuple es _ _=>(a3S bV N sc n es).map .tp
    |_=>none
def a3S (bV:Bool) (N:List Str) (sc:Scope):Nat->List Expr->Option Pats
  |0,_=>none
  | n +1,es=>match es with
    |[]=>some .nil
    | e::r=>match a8b bV N sc n e,a3S bV N sc n r with
      |some p,some ps=>some (.cons p ps)
      |_,_=>none
end
mutual
def L4:Pat->List Nat
  |.nm i=>[i]
  |.tp ps=>a0z ps
def a0z:Pats->List Nat
  |.nil=>[]
  |.cons p r=>L4 p++a0z r
end
mutual
def w8:Nat->Expr->List Str
  |0,_=>[]
  | n+1,e=>match e with
    |.Name x _=>[x]
    |.Tuple es _ _=>a4t n es
    |_=>[]
def a4t:Nat->List Expr->List Str
  |0,_=>[]
  | n+1,es=>match es with
    |[]=>[]
    |e::r=>w8 n e++a4t n r
end
noncomputable def E4(scope:Scope):List Str:=(scope.names.filter λy=>decide (y.2=.free)).map (·.1)
noncomputable def b4T(N:List Str):List Str->Option (List Nat)
 |[]=>some []
 |x::r=>match N.idxOf? x,b4T N r with
  |some i,some is=>some (i::is)
  |_,_=>none
structure Rec where
 E:List Str->Scope->Expr->Option E
 Es:List Str->Scope->List Expr->Option Es
 T:List Str->Scope->Expr->Option T
 O:List Str->Scope->Option Expr->Option O
 I:List Str->Scope->Expr->Expr->Option I
noncomputable def b7J:Expr->Bool
 |.Constant k _ _=>(match k with
  |.none=>true
  |_=>false)
 |_=>false
noncomputable def a7y:CmpOp->Option Bool
 |.Is=>some true
 |.IsNot=>some false
 |_=>none
noncomputable def b9k:Expr->Option (Option Expr×Option Expr)
 |.Slice lo hi st _=>(match st with
  |none=>some (lo,hi)
  |some _=>none)
 |_=>none
noncomputable def b9p:Const->Option E
 |.int i=>some (.k (.int i))
 |.str x=>some (.k (.str x))
 |.bool b=>some (.k (.bl b))
 |.none=>some (.k .non)
 |_=>none
noncomputable def sUn(G:GT)(r:Rec)(N:List Str)(sc:Scope)(a:Expr):UnaryOp->Option E
 |.USub=>(r.E N sc a).map .neg
 |.Not=>(r.E N sc a).map .nt
 |_=>none
noncomputable def sBo (G : GT) (r:Rec) (N:List Str) (sc:Scope) (p:Pos) (op:BoolOp):List Expr->Option E
 |[]=>none
 | a :: t => match t with
   |[]=>r.E N sc a
   | b::l=>match op with
     |.And=>(match r.E N sc a,r.E N sc (.BoolOp .And (b::l) p) with
             |some x,some y=>some (.an x y)
             |_,_=>none)
     |.Or=>(match r.E N sc a,r.E N sc (.BoolOp .Or (b::l) p) with
             |some x,some y=>some (.orr x y)
             |_,_=>none)
def b9r (G:GT) (r:Rec) (N:List Str) (sc:Scope) (a:Expr) (op:CmpOp) (b:Expr):Option E:=
 if b7J b&&(a7y op).isSome then(match a7y op with
  |some true=>(r.E N sc a).map .isN
  |_=>(r.E N sc a).map .notN) else
 if a1z b then(match a7Y op,r.E N sc a,r.E N sc b with
  |some o,some x,some y=>some (.bin o x y)
  | some o,some x,none=>(match b with
   |.Name y _=>if Q3 sc y then(match op,G.tups.lookup y with
    |.In,some ds=>some (.gin false x ds)
    |.NotIn,some ds=>some (.gin true x ds)
    |.In,none=>(G.dicts.lookup y).map (.gdin false x)
    |.NotIn,none=>(G.dicts.lookup y).map (.gdin true x)
    |_,_=>none) else none
   |_=>none)
  |_,_,_=>none) else none
def b9q(G:GT)(r:Rec)(N:List Str)(sc:Scope)(a:Expr)(op op':CmpOp)(b d:Expr):Option E:=if a1z d then(match a7Y op,a7Y op',r.E N sc a,r.E N sc b,r.E N sc d with
 |some o,some p,some x,some y,some z=>some (.chn o p x y z)
 |_,_,_,_,_=>none) else none
def sSl (G:GT) (r:Rec) (N:List Str) (sc:Scope) (a b:Expr):Option E:=match b9k b with
 | some (lo,hi)=>(match r.E N sc a,r.O N sc lo,r.O N sc hi with
         |some x,some l,some u=>some (.sl x l u)
         |_,_,_=>none)
 |none=>if a2T b then(match r.E N sc a,r.E N sc b with
     |some x,some y=>some (.ix x y)
     | none,some y=>(match a with
       |.Name z _=>if Q3 sc z then(G.dicts.lookup z).map (.gdix y) else none
       |_=>none)
     |_,_=>none) else none
noncomputable def b8n:Expr->Option Str
 |.Constant k _ _=>(match k with
  |.str x=>some x
  |_=>none)
 |_=>none
noncomputable def b8o:Expr->Option Int
 |.Constant k _ _=>(match k with
  |.int i=>some i
  |_=>none)
 |_=>none
def b0a:List (Option Expr)->List Expr->Option (List (D×D))
 |[],vs=>if vs.isEmpty then some [] else none
 | k::ks,vs=>(match vs with
  |[]=>none
  |v::r=>(match k.bind b8n,b8o v,b0a ks r with
   |some x,some i,some l=>some ((.str x,.int i)::l)
   |_,_,_=>none))
noncomputable def a5k:List D->Bool
 |[]=>true
 |d::r=>!(r.any λe=>decide (e=d))&&a5k r
def b8k(bF:List (D×D)):Bool:=decide (↥bF<=15)&&a5k (bF.map (·.1))
noncomputable def b3v:List Expr->Option (Expr×Expr)
 |[]=>none
 |a::r=>(match r with
  |[]=>none
  |b::q=>if q.isEmpty then some (a,b) else none)
noncomputable def b7r:Expr->Option Str
 |.Name x _=>some x
 |_=>none
noncomputable def b7M(x:Str):Option Nat:=if x="bool" then some 0 else if x="int" then some 1 else if x="list" then some 2 else if x="tuple" then some 3 else if x="str" then some 4 else none
def sCn (G:GT) (r:Rec) (N:List Str) (sc:Scope) (x:Str) (as:List Expr):Option E:=if Q3 sc x then(match G.fn.lookup x with
 |some (f,np)=>if ↥as=np&&decide (as≠[]) then(r.Es N sc as).map (.call f) else none
 | none=>match G.obj.lookup x with
  |some k=>if as=[] then some (.mk k .nil) else none
  | none=>if G.blt.contains x then(if x="isinstance" then(match b3v as with
   | some (a,b)=>(match b7r b with
    |some y=>if v7 a&&(Q3 sc y&&G.blt.contains y) then(match b7M y with
     |some k=>(r.E N sc a).map (.ins k)
     |none=>none) else none
    |none=>none)
   |none=>none)
   else match b8v x with
    |some b=>if as≠[] then(r.Es N sc as).map (.bi b) else none
    |none=>none) else none) else none
def b9o(G:GT)(r:Rec)(N:List Str)(sc:Scope)(o:Expr)(as:List Expr):Option E:=match b3v as with
 |some (a,b)=>if v7 a&&v7 b then(match r.E N sc o,r.E N sc a,r.E N sc b with
  |some x,some y,some z=>some (.dget x y z)
  |_,_,_=>none) else none
 |none=>none
def sCa(G:GT)(r:Rec)(N:List Str)(sc:Scope)(o:Expr)(m:Str)(cx:Pos)(as:List Expr)(cb:Pos):Option E:=if a0W o&&(cx.endLine==cb.line)&&decide (m="get") then b9o G r N sc o as else if a0W o&&(cx.endLine==cb.line)&&decide (↥as<20)&&decide (as≠[]) then(match b7v m,r.E N sc o,r.Es N sc as with
 |some b,some x,some xs=>some (.mt b x xs)
 |_,_,_=>none) else none
def sLc (G:GT) (r:Rec) (N:List Str) (sc:Scope) (cN tg iter:Expr) (ifs:List Expr) (scope:Scope):Option E:=match r.I N sc tg iter with
 | some it=>match b4T N (E4 scope) with
  | some js=>if b8p sc scope (w8 8 tg) (E4 scope)&&a1z iter then(match a8b false (w8 8 tg++E4 scope) (a8u sc scope) 8 tg,r.E (w8 8 tg++E4 scope) (a8u sc scope) cN with
   |some p,some x=>if(L4 p).all (λi=>decide (i<↥(w8 8 tg))) then(match ifs with
    |[]=>some (.comp p it ↥(w8 8 tg) js .yes x)
    |[t]=>(r.T (w8 8 tg++E4 scope) (a8u sc scope) t).map λz=>.comp p it ↥(w8 8 tg) js z x
    |_=>none) else none
   |_,_=>none) else none
  |none=>none
 |none=>none
def sE2(G:GT)(r:Rec)(N:List Str)(sc:Scope)(e:Expr):Option E:=match e with
 |.Subscript a b _=>sSl G r N sc a b
 |.Attribute a f _=>if a0W a&&G.atts.contains f then(r.E N sc a).map (.fld · f) else none
 |.List es _=>(r.Es N sc es).map .lst
 |.Tuple es _ _=>(r.Es N sc es).map .tup
 | .Dict ks vs _=>(match ks with
  |[]=>(match vs with
   |[]=>some .dnew
   |_::_=>none)
  |_::_=>(b0a ks vs).bind λbF=>if b8k bF then some (.dlit bF) else none)
 |.Call f as ks cb=>if ks.isEmpty then(match f with
  |.Name x _=>sCn G r N sc x as
  |.Attribute o m cx=>sCa G r N sc o m cx as cb
  |_=>none) else none
 |.ListComp cN gens scope _=>(match gens with
  |[]=>none
  |g::t=>if t.isEmpty&&decide (g.is_async=0) then sLc G r N sc cN g.target g.iter g.ifs scope else none)
 |_=>none
def sE (G:GT) (r:Rec) (N:List Str) (sc:Scope) (e:Expr):Option E:=match e with
 |.Constant k _ _=>b9p k
 |.Name x _=>match slot N sc x with
  |some i=>some (.v i)
  |none=>if Q3 sc x then(G.scal.lookup x).map .k else none
 |.BinOp a op b _=>match c0Y op,r.E N sc a,r.E N sc b with
  |some o,some x,some y=>some (.bin o x y)
  |_,_,_=>none
 |.UnaryOp op a _=>sUn G r N sc a op
 |.BoolOp op l p=>sBo G r N sc p op l
 | .Compare a ops bs _=>(match ops with
  |[]=>none
  | op::t=>(match bs with
   |[]=>none
   | b::u=>(match t with
    |[]=>(match u with
     |[]=>b9r G r N sc a op b
     |_::_=>none)
    |op'::t'=>(match u with
     |[]=>none
     |d::u'=>if t'.isEmpty&&u'.isEmpty then b9q G r N sc a op op' b d else none))))
 |e=>sE2 G r N sc e
def sEs(G:GT)(r:Rec)(N:List Str)(sc:Scope)(es:List Expr):Option Es:=match es with
 |[]=>some .nil
 |e::l=>if v7 e then(match r.E N sc e,r.Es N sc l with
  |some x,some xs=>some (.cons x xs)
  |_,_=>none) else none
def sTd(G:GT)(r:Rec)(N:List Str)(sc:Scope)(e:Expr):Option T:=if b6T e then(r.E N sc e).map .val else none
def b9m (G:GT) (r:Rec) (N:List Str) (sc:Scope) (a:Expr) (op:CmpOp) (b:Expr):Option T:=
 if b7J b&&(a7y op).isSome then(match a7y op with
  |some true=>(r.E N sc a).map .isN
  |_=>(r.E N sc a).map .notN) else
 if a1z b then(match a7Y op,r.E N sc a,r.E N sc b with
  |some o,some x,some y=>some (.cmp o x y)
  | some o,some x,none=>(match b with
   |.Name y _=>if Q3 sc y then(match op,G.tups.lookup y with
    |.In,some ds=>some (.val (.gin false x ds))
    |.NotIn,some ds=>some (.val (.gin true x ds))
    |.In,none=>(G.dicts.lookup y).map λbF=>.val (.gdin false x bF)
    |.NotIn,none=>(G.dicts.lookup y).map λbF=>.val (.gdin true x bF)
    |_,_=>none) else none
   |_=>none)
  |_,_,_=>none) else none
def b9l(G:GT)(r:Rec)(N:List Str)(sc:Scope)(a:Expr)(op op':CmpOp)(b d:Expr):Option T:=if a1z d then(match a7Y op,a7Y op',r.E N sc a,r.E N sc b,r.E N sc d with
 |some o,some p,some x,some y,some z=>some (.chn o p x y z)
 |_,_,_,_,_=>none) else none
def sT (G:GT) (r:Rec) (N:List Str) (sc:Scope) (e:Expr):Option T:=match e with
 |.UnaryOp op a p=>(match op with
  |.Not=>(r.T N sc a).map .nt
  |op=>sTd G r N sc (.UnaryOp op a p))
 | .BoolOp op l p=>(match l with
  |[]=>sTd G r N sc (.BoolOp op [] p)
  | a::t=>(match t with
   |[]=>r.T N sc a
   | b::l=>(match op with
    |.And=>(match r.T N sc a,r.T N sc (.BoolOp .And (b::l) p) with
     |some x,some y=>some (.an x y)
     |_,_=>none)
    |.Or=>(match r.T N sc a,r.T N sc (.BoolOp .Or (b::l) p) with
     |some x,some y=>some (.orr x y)
     |_,_=>none))))
 | .Compare a ops bs p=>(match ops with
  |[]=>none
  | op::t=>(match bs with
   |[]=>none
   | b::u=>(match t with
    |[]=>(match u with
     |[]=>b9m G r N sc a op b
     |_::_=>none)
    |op'::t'=>(match u with
     |[]=>none
     |d::u'=>if t'.isEmpty&&u'.isEmpty then b9l G r N sc a op op' b d else none))))
 |e=>sTd G r N sc e
noncomputable def sO(G:GT)(r:Rec)(N:List Str)(sc:Scope)(o:Option Expr):Option O:=match o with
 |none=>some .no
 |some e=>(r.E N sc e).map .at
def sI (G:GT) (r:Rec) (N:List Str) (sc:Scope) (tg e:Expr):Option I:=match e with
 | .Call (.Name x p) as [] q=>if Q3 sc x&&G.blt.contains x&&decide (x="range") then(match as with
  |[a]=>if v7 a then(r.E N sc a).map .rng1 else none
  |_=>none)
  else if Q3 sc x&&G.blt.contains x&&decide (x="enumerate") then(match as,tg with
   |[a],.Tuple _ _ _=>if v7 a then(r.E N sc a).map .enum else none
   |_,_=>none)
  else if Q3 sc x&&G.blt.contains x&&decide (x="zip") then(match as,tg with
   |[a,b],.Tuple _ _ _=>if v7 a&&v7 b then(match r.E N sc a,r.E N sc b with
    |some u,some v=>some (.zip u v)
    |_,_=>none) else none
   |[a,b],.Name _ _=>if v7 a&&v7 b then(match r.E N sc a,r.E N sc b with
    |some u,some v=>some (.zipn u v)
    |_,_=>none) else none
   |_,_=>none)
  else(r.E N sc (.Call (.Name x p) as [] q)).map .seq
 |e=>(r.E N sc e).map .seq
def cR(G:GT):Nat->Rec
 |0=>⟨λ_ _ _=>none,λ_ _ _=>none,λ_ _ _=>none,λ_ _ _=>none,λ_ _ _ _=>none⟩
 |n+1=>⟨sE G (cR G n),sEs G (cR G n),sT G (cR G n),sO G (cR G n),sI G (cR G n)⟩
abbrev cE(G:GT)(N:List Str)(sc:Scope)(n:Nat)(e:Expr):Option E:=(cR G n).E N sc e
abbrev cEs(G:GT)(N:List Str)(sc:Scope)(n:Nat)(es:List Expr):Option Es:=(cR G n).Es N sc es
abbrev cT(G:GT)(N:List Str)(sc:Scope)(n:Nat)(e:Expr):Option T:=(cR G n).T N sc e
abbrev cO(G:GT)(N:List Str)(sc:Scope)(n:Nat)(o:Option Expr):Option O:=(cR G n).O N sc o
abbrev cI(G:GT)(N:List Str)(sc:Scope)(n:Nat)(tg e:Expr):Option I:=(cR G n).I N sc tg e
noncomputable def U3(e:Expr):Bool:=match e with
 |.ListComp .. =>false|.SetComp .. =>false|.DictComp .. =>false
 |_=>true
noncomputable def b9X(e:Expr):Bool:=match e with
 |.ListComp .. =>true
 |_=>false
noncomputable def b5X:Expr->Bool
 |.Subscript .. =>true
 |.Call .. =>true
 |_=>false
def sAs (G:GT) (N:List Str) (sc:Scope) (e:Expr):Expr->Option S
 | .Name x _=>(match a3l true N sc x,cE G N sc 40 e with
         |some i,some y=>if U3 e||b9X e then some (.set i y) else none
         |_,_=>none)
 |.Subscript a i _=>(match cE G N sc 40 a,cE G N sc 40 i,cE G N sc 40 e with
         |some x,some k,some y=>if U3 e&&a2T i then some (.six x k y) else none
         |_,_,_=>none)
 |.Attribute a f _=>(match cE G N sc 40 a,cE G N sc 40 e with
         |some x,some y=>if U3 e&&G.atts.contains f then some (.sfl x f y) else none
         |_,_=>none)
 |.Tuple es k q=>(match a8b true N sc 8 (.Tuple es k q),cE G N sc 40 e with
         |some p,some y=>if b5X e then some (.pat p y) else none
         |_,_=>none)
 |_=>none
def sS(G:GT)(N:List Str)(sc:Scope)(r:List Stmt->Option Ss)(s:Stmt):Option S:=match s with
 |.Assign tgs e _=>(match tgs with
  |[]=>none
  |t::u=>if u.isEmpty then sAs G N sc e t else none)
 |.Expr e _=>if U3 e then(cE G N sc 40 e).map .ex else none
 |.Return o _=>(match o with
  |some e=>(cE G N sc 40 e).map .ret
  |none=>none)
 |.If t a b _=>match cT G N sc 40 t,r a,r b with
  |some z,some x,some y=>some (.iff z x y)
  |_,_,_=>none
 |.For tg it b els _=>if els.isEmpty then(match a8b true N sc 8 tg,cI G N sc 40 tg it,r b with
  |some p,some i,some y=>if a1z it then some (.for p i y) else none
  |_,_,_=>none) else none
 |.While t b els _=>if els.isEmpty then(match cT G N sc 40 t,r b with
  |some z,some y=>some (.whl z y)
  |_,_=>none) else none
 |.Raise _ _ _=>some .bad
 |_=>none
def sSs(G:GT)(N:List Str)(sc:Scope)(r:List Stmt->Option Ss):List Stmt->Option Ss
 |[]=>some .nil
 |s::l=>match sS G N sc r s,sSs G N sc r l with
  |some x,some y=>some (.cons x y)
  |_,_=>none
def cSs(G:GT)(N:List Str)(sc:Scope):Nat->List Stmt->Option Ss
 |0=>λ_=>none
 |n+1=>sSs G N sc (cSs G N sc n)
variable{a:E}{e:E}{neg:Bool}{p:Pat}{it:I}
section
variable{ct:CT}{c:CF}
theorem b7Z{i:Nat}:ev ct c (.v i) env h=(match env[i]? with
 |some (some d)=>.ok d h
 |_=>.no):=rfl
theorem c2k:ev ct c (.k d) env h=.ok d h:=rfl
theorem b2L{o:B}{b:E}:ev ct c (.bin o a b) env h=(ev ct c a env h).bind λx h1=>(ev ct c b env h1).bind λy h2=>op2 o h2 x y:=rfl
theorem b8d:ev ct c (.isN a) env h=(ev ct c a env h).bind λx h1=>.ok (.bl (decide (x=.non))) h1:=rfl
theorem b5j:ev ct c (.notN a) env h=(ev ct c a env h).bind λx h1=>.ok (.bl (!decide (x=.non))) h1:=rfl
theorem b8c:ev ct c (.neg a) env h=(ev ct c a env h).bind λx h1=>match x with
 |.int i=>.ok (.int (-i)) h1
 |_=>.no:=rfl
theorem c0x:ev ct c (.nt a) env h=(asB (ev ct c a env h)).bind λb h1=>.ok (.bl (!b)) h1:=rfl
theorem c0B{b:E}:ev ct c (.an a b) env h=(asB (ev ct c a env h)).bind λx h1=>if x=true then ev ct c b env h1 else .ok (.bl false) h1:=rfl
theorem b8b{b:E}:ev ct c (.orr a b) env h=(asB (ev ct c a env h)).bind λx h1=>if x=true then .ok (.bl true) h1 else ev ct c b env h1:=rfl
theorem b8g{o p:B}{b:E}:ev ct c (.chn o p a b e) env h=(ev ct c a env h).bind λx h1=>(ev ct c b env h1).bind λy h2=>(asB (op2 o h2 x y)).bind λk h3=>if k=true then(ev ct c e env h3).bind λz h4=>op2 p h4 y z else .ok (.bl false) h3:=rfl
theorem c0z{b:E}:ev ct c (.ix a b) env h=(ev ct c a env h).bind λx h1=>(ev ct c b env h1).bind λy h2=>ixD h2 x y:=rfl
theorem c0w{lo hi:O}:ev ct c (.sl a lo hi) env h=(ev ct c a env h).bind λx h1=>(evo ct c lo env h1).bind λl h2=>(evo ct c hi env h2).bind λu h3=>slD h3 l u x:=rfl
theorem b8f:ev ct c (.fld a f) env h=(ev ct c a env h).bind λx h1=>W8 h1 f x:=rfl
theorem b2K{es:Es}:ev ct c (.lst es) env h=(evs ct c es env h).bind λds h1=>if ↥ds<=SL then v8 (.lst ds) h1 else .no:=rfl
theorem b8a{es:Es}:ev ct c (.tup es) env h=(evs ct c es env h).bind λds h1=>if ↥ds<=SL then .ok (.tup ds) h1 else .no:=rfl
theorem b5m:ev ct c .dnew env h=v8 (.dict []) h:=rfl
theorem b5p{f:Nat}{es:Es}:ev ct c (.call f es) env h=(evs ct c es env h).bind λds h1=>c f ds h1:=rfl
theorem b6d{k:Nat}{es:Es}:ev ct c (.mk k es) env h=(evs ct c es env h).bind λds h1=>(c (ct.init k) (.ref ↥h1::ds) (h1++[.obj k []])).bind λr h2=>match r with
 |.non=>.ok (.ref ↥h1) h2
 |_=>.no:=rfl
theorem c0A{b:Bi}{es:Es}:ev ct c (.bi b es) env h=(evs ct c es env h).bind λds h1=>biD b h1 ds:=rfl
theorem c0y{b:Mt}{o:E}{es:Es}:ev ct c (.mt b o es) env h=(ev ct c o env h).bind λx h1=>if mtT b h1 x=true then(evs ct c es env h1).bind λds h2=>mtD b h2 x ds else .no:=rfl
theorem a2m{k:Nat}:ev ct c (.ins k a) env h=(ev ct c a env h).bind λx h1=>match a1E h1 k x with
 |some b=>.ok (.bl b) h1
 |none=>.no:=rfl
theorem b8e:ev ct c (.gin neg a ds) env h=(ev ct c a env h).bind λx h1=>if y7 x=true/\ds.all y7=true then .ok (.bl (inD x ds !=neg)) h1 else .no:=rfl
theorem b5l:ev ct c (.gdin neg a bF) env h=(ev ct c a env h).bind λx h1=>if(K7 x).isSome=true then .ok (.bl ((o0 bF x).isSome !=neg)) h1 else .no:=rfl
theorem b5k:ev ct c (.gdix a bF) env h=(ev ct c a env h).bind λx h1=>if(K7 x).isSome=true then(match o0 bF x with
 |some d=>.ok d h1
 |none=>.no) else .no:=rfl
theorem b5n:ev ct c (.dlit bF) env h=v8 (.dict bF) h:=rfl
theorem b5o{k x:E}:ev ct c (.dget a k x) env h=(ev ct c a env h).bind λo h1=>if b1T h1 o=true then(ev ct c k env h1).bind λy h2=>(ev ct c x env h2).bind λz h3=>a6U h3 o y z else .no:=rfl
theorem a8S:evs ct c .nil env h=.ok [] h:=rfl
theorem b2G{r:Es}:evs ct c (.cons e r) env h=(ev ct c e env h).bind λd h1=>(evs ct c r env h1).bind λds h2=>.ok (d::ds) h2:=rfl
theorem a4Q:tst ct c .yes env h=.ok true h:=rfl
theorem b3y:tst ct c (.val e) env h=asB (ev ct c e env h):=rfl
theorem b3B{o:B}{b:E}:tst ct c (.cmp o a b) env h=asB ((ev ct c a env h).bind λx h1=>(ev ct c b env h1).bind λy h2=>op2 o h2 x y):=rfl
theorem b3A:tst ct c (.isN a) env h=(ev ct c a env h).bind λx h1=>.ok (decide (x=.non)) h1:=rfl
theorem b0o:tst ct c (.notN a) env h=(ev ct c a env h).bind λx h1=>.ok (!decide (x=.non)) h1:=rfl
theorem b3C{o p:B}{b:E}:tst ct c (.chn o p a b e) env h=asB ((ev ct c a env h).bind λx h1=>(ev ct c b env h1).bind λy h2=>(asB (op2 o h2 x y)).bind λk h3=>if k=true then(ev ct c e env h3).bind λz h4=>op2 p h4 y z else .ok (.bl false) h3):=rfl
theorem b6p{a b:T}:tst ct c (.an a b) env h=(tst ct c a env h).bind λx h1=>if x=true then tst ct c b env h1 else .ok false h1:=rfl
theorem b3z{a b:T}:tst ct c (.orr a b) env h=(tst ct c a env h).bind λx h1=>if x=true then .ok true h1 else tst ct c b env h1:=rfl
theorem b6o{a:T}:tst ct c (.nt a) env h=(tst ct c a env h).bind λx h1=>.ok (!x) h1:=rfl
theorem b7Y:evo ct c .no env h=.ok none h:=rfl
theorem b2H:evo ct c (.at e) env h=a8K (ev ct c e env h):=rfl
theorem a2V:evi ct c (.seq e) env h=(ev ct c e env h).bind λd h1=>M3 h1 d:=rfl
theorem a6P:evi ct c (.rng1 a) env h=(ev ct c a env h).bind λd h1=>b0M h1 (.int 0) d:=rfl
theorem a6Q:evi ct c (.enum e) env h=(ev ct c e env h).bind λd h1=>T8 h1 d:=rfl
theorem b5i{b:E}:evi ct c (.zip a b) env h=(ev ct c a env h).bind λx h1=>(ev ct c b env h1).bind λy h2=>a9g h2 x y:=rfl
theorem b2J{b:E}:evi ct c (.zipn a b) env h=(ev ct c a env h).bind λx h1=>(ev ct c b env h1).bind λy h2=>a5T h2 x y:=rfl
theorem a0l{i:Nat}:ex ct c (.set i e) env h=(ev ct c e env h).bind λd h1=>.ok (.nx (env.set i (some d))) h1:=rfl
theorem c0u:ex ct c (.ex e) env h=(ev ct c e env h).bind λ_ h1=>.ok (.nx env) h1:=rfl
theorem a1i:ex ct c (.ret e) env h=(ev ct c e env h).bind λd h1=>.ok (.rt d) h1:=rfl
theorem b2E{t:T}{a b:Ss}:ex ct c (.iff t a b) env h=(tst ct c t env h).bind λx h1=>if x=true then exs ct c a env h1 else exs ct c b env h1:=rfl
theorem b2F{b:Ss}:ex ct c (.for p it b) env h=(evi ct c it env h).bind λx h1=>K8 x.2 p (exs ct c b) x.1 env h1:=rfl
theorem b7V{t:T}{b:Ss}:ex ct c (.whl t b) env h=a5W (tst ct c t) (exs ct c b) a7k env h:=rfl
theorem b7X:ex ct c (.pat p e) env h=(ev ct c e env h).bind λd h1=>match F7 p d env with
 |some bI=>.ok (.nx bI) h1
 |none=>.no:=rfl
theorem b2D{i v:E}:ex ct c (.six a i v) env h=(ev ct c v env h).bind λx h1=>(ev ct c a env h1).bind λo h2=>(ev ct c i env h2).bind λk h3=>(a0L h3 o k x).bind λ_ h4=>.ok (.nx env) h4:=rfl
theorem b7W{v:E}:ex ct c (.sfl a f v) env h=(ev ct c v env h).bind λx h1=>(ev ct c a env h1).bind λo h2=>(a4Y h2 o f x).bind λ_ h3=>.ok (.nx env) h3:=rfl
theorem a5E:exs ct c .nil env h=.ok (.nx env) h:=rfl
theorem K4{s:S}{r:Ss}:exs ct c (.cons s r) env h=(ex ct c s env h).bind λo h1=>match o with
 |.nx bI=>exs ct c r bI h1
 |.rt d=>.ok (.rt d) h1:=rfl
end
noncomputable def TEv(Γ:Gm)(E:XK)(f:u9->AH->R D):TE:=λσ H Q=>∃env ah m,Rel Γ env ah σ H m/\i9 Γ E m H (f env ah) Q
noncomputable def TAv(Γ:Gm)(E:XK)(f:u9->AH->R (List D)):TA:=λσ H Q=>∃env ah m,Rel Γ env ah σ H m/\k8 Γ E m H (f env ah) (λds _ m1 H1=>∀vs,Rps m1 H1 ds vs->Q vs H1)
noncomputable def TTv(Γ:Gm)(E:XK)(f:u9->AH->R Bool):TT:=λσ H Q=>∃env ah m,Rel Γ env ah σ H m/\k8 Γ E m H (f env ah) (λb _ _ H1=>Q b H1)
noncomputable def TOv(Γ:Gm)(E:XK)(f:u9->AH->R (Option Int)):TO:=λσ H Q=>∃env ah m,Rel Γ env ah σ H m/\k8 Γ E m H (f env ah) (λb _ _ H1=>Q b H1)
variable{t':TE}{es:List Expr}{st:Stmt}{Q':VK}{x:Str}
section
variable{X:Cx}{E:XK}{e a b d:Expr}{pos:Pos}
theorem PE.imp{t:TE}(h:PE X e t)(i:∀σ H Q,t' σ H Q->t σ H Q):PE X e t':=λbE s σ H Q I q=>h bE s σ H Q I (i _ _ _ q)
theorem PT.imp{t t':TT}(h:PT X e t)(i:∀σ H Q,t' σ H Q->t σ H Q):PT X e t':=λbE s σ H Q I q=>h bE s σ H Q I (i _ _ _ q)
theorem PW.imp{t t':TT}(h:PW X e t)(i:∀σ H Q,t' σ H Q->t σ H Q):PW X e t':=λw bE s σ H Q I q=>h w bE s σ H Q I (i _ _ _ q)
theorem PA.imp{t t':TA}(h:PA X es t)(i:∀σ H Q,t' σ H Q->t σ H Q):PA X es t':=λp bE s σ H Q I q=>h p bE s σ H Q I (i _ _ _ q)
theorem PO.imp{e:Option Expr}{t t':TO}(h:PO X e t)(i:∀σ H Q,t' σ H Q->t σ H Q):PO X e t':=λbE s σ H Q I q=>h bE s σ H Q I (i _ _ _ q)
theorem PS.imp{t t':TS}(h:PS X st t)(i:∀D σ H,t' D σ H->t D σ H):PS X st t':=λbE s σ H D I q=>h bE s σ H D I (i _ _ _ q)
theorem PSs.imp{st:List Stmt}{t t':TS}(h:PSs X st t)(i:∀D σ H,t' D σ H->t D σ H):PSs X st t':=λbE s σ H D I q=>h bE s σ H D I (i _ _ _ q)
theorem Rel.on{bN:AH}(r:Rel Γ env ah σ H m)(p:Pre m m1)(k:Keep m m1 H H1)(s:Sim Γ bN m1 H1):Rel Γ env bN σ H1 m1:=⟨s,r.env.mono p k⟩
theorem i9.first{f:D->AH->R D}(rl:Rel Γ env ah σ H m)(h:i9 Γ E m H (r.bind f) Q)
 (k:∀d bN m1 H1 v,Pre m m1->Keep m m1 H H1->Rel Γ env bN σ H1 m1->Rp m1 H1 d v->i9 Γ E m1 H1 (f d bN) Q->Q' v H1):i9 Γ E m H r Q':=
 h.bind.val λd bN m1 H1 v p kp s r q=>k d bN m1 H1 v p kp (rl.on p kp s) r q
theorem k8.first{f:D->AH->R β}{P:β->AH->List Addr->Hp->Prop}(rl:Rel Γ env ah σ H m)(h:k8 Γ E m H (r.bind f) P)
 (k:∀d bN m1 H1 v,Pre m m1->Keep m m1 H H1->Rel Γ env bN σ H1 m1->Rp m1 H1 d v->k8 Γ E m1 H1 (f d bN) P->Q' v H1):i9 Γ E m H r Q':=
 h.bind.val λd bN m1 H1 v p kp s r q=>k d bN m1 H1 v p kp (rl.on p kp s) r q
theorem k8.mp{r:R α}{P P':α->AH->List Addr->Hp->Prop}(h:k8 Γ E m H r P)(k:∀a bN m1 H1,Pre m m1->Keep m m1 H H1->Sim Γ bN m1 H1->P a bN m1 H1->P' a bN m1 H1):k8 Γ E m H r P':=by
 cases r with
 |ok d ah=>exact λm2 H2 p2 k2 s2=>k d ah m2 H2 p2 k2 s2 (h m2 H2 p2 k2 s2)
 |no=>exact h
theorem i9.mp(h:i9 Γ E m H r Q)(k:∀v H',Q v H'->Q' v H'):i9 Γ E m H r Q':=by
 cases r with
 |ok d ah=>exact λm2 H2 v p2 k2 s2 r2=>k v H2 (h m2 H2 v p2 k2 s2 r2)
 |no=>exact h
theorem k8.ok{a:α}{P:α->AH->List Addr->Hp->Prop}(h:k8 Γ E m H (.ok a ah) P)(s:Sim Γ ah m H):P a ah m H:=h m H (Pre.refl m) (Keep.refl m H) s
theorem k8.bool{P:Bool->AH->List Addr->Hp->Prop}(h:k8 Γ E m H (asB r) P):i9 Γ E m H r (λx H1=>∃k,x=.bl k/\∃bN m1,Pre m m1/\Keep m m1 H H1/\Sim Γ bN m1 H1/\P k bN m1 H1):=by
 unfold asB at h;refine h.bind.val λd bN m1 H1 v p kp s r q=>?_;cases d<;>first|exact q.elim|skip
 rename_i k;exact⟨k,r,bN,m1,p,kp,s,q.ok s⟩
theorem a_v{i:Nat}(hN:X.N[i]? =some x)(hv:Vis X.env.scope x)(hd:(x==("__debug__":Str))=false)(eS:(x==("__classdict__":Str))=false)(c:CF)(ct:CT):PE X (.Name x pos) (TEv Γ E (ev ct c (.v i))):=by
 refine PE.imp (b6Z hN hv hd eS) ?_;rintro σ H Q ⟨env,ah,m,rl,q⟩;rw[b7Z] at q;split at q
 · rename_i d e;obtain⟨v,h1,h2⟩:=rl.env.val i d e;exact⟨v,h1,q.ok rl.sim h2⟩
 · exact q.elim
theorem a_k{dd:D}(h:PE X e (tC v))(hr:∀m H,Rp m H dd v)(c:CF)(ct:CT):PE X e (TEv Γ E (ev ct c (.k dd))):=by refine PE.imp h ?_;rintro σ H Q ⟨env,ah,m,rl,q⟩;exact q.ok rl.sim (hr m H)
end
variable{op':CmpOp}{p2:Pos}
section
variable{X:Cx}{Ex:XK}{e a b d:Expr}{pos:Pos}{ct:CT}{c:CF}{x y z:E}
theorem two{r:R2}{g:AH->D->D->R D}(ha:PE X a (TEv Γ Ex (ev ct c x)))(hb:PE X b (TEv Γ Ex (ev ct c y))):∀σ H Q,TEv Γ Ex (λenv h=>(ev ct c x env h).bind λu h1=>(ev ct c y env h1).bind λv h2=>g h2 u v) σ H Q→
 tOp (rOf Γ Ex g) (TEv Γ Ex (ev ct c x)) (TEv Γ Ex (ev ct c y)) σ H Q:=by
 rintro σ H Q ⟨env,ah,m,rl,q⟩;refine⟨env,ah,m,rl,i9.first rl q λd1 bN m1 H1 v1 p1 k1 bP r1 q1=>?_⟩;refine⟨env,bN,m1,bP,i9.first bP q1 λd2 cq m2 H2 v2 p2 k2 cH r2 q2=>?_⟩;exact⟨d1,d2,cq,m2,cH.sim,r1.mono p2 k2,r2,q2⟩
theorem c1y{o:B}{op:Operator}(h:o.bin=some op)(ha:PE X a (TEv Γ Ex (ev ct c x)))(hb:PE X b (TEv Γ Ex (ev ct c y))):PE X (.BinOp a op b pos) (TEv Γ Ex (ev ct c (.bin o x y))):=by
 refine PE.imp (b9C (c0J (Γ:=Γ) (E:=Ex) h) ha hb) λσ H Q q=>two (r:=rOf Γ Ex (op2 o)) ha hb σ H Q ?_
 simpa only[TEv,ev] using q
theorem c1w{o:B}(hu:X.A.units+8<cLine)(hK:X.K=Γ.K)(h:o.cmp=some op)(ha:PE X a (TEv Γ Ex (ev ct c x)))(hb:PE X b (TEv Γ Ex (ev ct c y)))(hm:behindInMarks op b=false):PE X (.Compare a [op] [b] pos) (TEv Γ Ex (ev ct c (.bin o x y))):=by
 refine PE.imp (a5f (a2n (Γ:=Γ) (E:=Ex) hu hK h) ha hb hm) λσ H Q q=>two (r:=rOf Γ Ex (op2 o)) ha hb σ H Q ?_
 simpa only[TEv,ev] using q
theorem a2K{f:u9->AH->R D}{t:TE}(h:∀σ H Q,TEv Γ Ex f σ H Q->t σ H Q):∀σ H Q,TTv Γ Ex (λenv h=>asB (f env h)) σ H Q->b0w t σ H Q:=by rintro σ H Q ⟨env,ah,m,rl,q⟩;exact h σ H _ ⟨env,ah,m,rl,q.bool.mp λv H1 ⟨k,e,_,_,_,_,_,w⟩=>⟨k,e,w⟩⟩
theorem b8M{o:B}(hu:X.A.units+8<cLine)(hK:X.K=Γ.K)(h:o.cmp=some op)(ha:PE X a (TEv Γ Ex (ev ct c x)))(hb:PE X b (TEv Γ Ex (ev ct c y)))(hm:behindInMarks op b=false):PT X (.Compare a [op] [b] pos) (TTv Γ Ex (tst ct c (.cmp o x y))):=by
 refine PT.imp (a5e (a2n (Γ:=Γ) (E:=Ex) hu hK h) ha hb hm) λσ H Q q=>a2K (two (r:=rOf Γ Ex (op2 o)) ha hb) σ H Q ?_
 simpa only[TTv,tst] using q
theorem a5b{d:D}(r:Rp m H d v):decide (v=.non)=decide (d=.non):=by
 cases d with
 |non=>cases r;rfl
 |bl _=>cases r;rfl
 |int _=>cases r;rfl
 |str _=>cases r;rfl
 |tup _=>obtain⟨_,_,rfl,_⟩:=r;rfl
 |ref _=>obtain⟨_,rfl,_⟩:=r;rfl
theorem c1t{j p'}(ha:PE X a (TEv Γ Ex (ev ct c x))):PE X (.Compare a [.Is] [.Constant .none j p'] pos) (TEv Γ Ex (ev ct c (.isN x))):=by refine PE.imp (b1n (b1p ha)) ?_;rintro σ H Q ⟨env,ah,m,rl,q⟩;refine⟨env,ah,m,rl,i9.first rl q λd1 bN m1 H1 v1 p1 k1 bP r1 q1=>?_⟩;rw[a5b r1];exact q1.ok bP.sim rfl
theorem b8D{j p'}(ha:PE X a (TEv Γ Ex (ev ct c x))):PE X (.Compare a [.IsNot] [.Constant .none j p'] pos) (TEv Γ Ex (ev ct c (.notN x))):=by refine PE.imp (b1n (a8v ha)) ?_;rintro σ H Q ⟨env,ah,m,rl,q⟩;refine⟨env,ah,m,rl,i9.first rl q λd1 bN m1 H1 v1 p1 k1 bP r1 q1=>?_⟩;rw[a5b r1];exact q1.ok bP.sim rfl
theorem b8E{j p'}(ha:PE X a (TEv Γ Ex (ev ct c x))):PT X (.Compare a [.Is] [.Constant .none j p'] pos) (TTv Γ Ex (tst ct c (.isN x))):=by refine PT.imp (b0U (b1p ha)) ?_;rintro σ H Q ⟨env,ah,m,rl,q⟩;refine⟨env,ah,m,rl,k8.first rl q λd1 bN m1 H1 v1 p1 k1 bP r1 q1=>?_⟩;rw[a5b r1];exact⟨_,rfl,q1.ok bP.sim⟩
theorem b5P{j p'}(ha:PE X a (TEv Γ Ex (ev ct c x))):PT X (.Compare a [.IsNot] [.Constant .none j p'] pos) (TTv Γ Ex (tst ct c (.notN x))):=by refine PT.imp (b0U (a8v ha)) ?_;rintro σ H Q ⟨env,ah,m,rl,q⟩;refine⟨env,ah,m,rl,k8.first rl q λd1 bN m1 H1 v1 p1 k1 bP r1 q1=>?_⟩;rw[a5b r1];exact⟨_,rfl,q1.ok bP.sim⟩
theorem c1r(ha:PE X a (TEv Γ Ex (ev ct c x))):PE X (.UnaryOp .USub a pos) (TEv Γ Ex (ev ct c (.neg x))):=by
 refine PE.imp (b9A b6l ha) ?_;rintro σ H Q ⟨env,ah,m,rl,q⟩;refine⟨env,ah,m,rl,i9.first rl q λd1 bN m1 H1 v1 p1 k1 bP r1 q1=>?_⟩;cases d1<;>first|exact q1.elim|skip
 cases r1;exact⟨_,rfl,q1.ok bP.sim rfl⟩
theorem i9.firstB{f:Bool->AH->R D}(rl:Rel Γ env ah σ H m)(h:i9 Γ Ex m H ((asB r).bind f) Q)
 (k:∀b bN m1 H1,Pre m m1->Keep m m1 H H1->Rel Γ env bN σ H1 m1->i9 Γ Ex m1 H1 (f b bN) Q->Q' (.bl b) H1):i9 Γ Ex m H r Q':=by
 refine h.bind.bool.mp λv H1 hh=>?_;obtain⟨b,rfl,cq,m2,p2,k2,s2,w⟩:=hh;exact k b cq m2 H1 p2 k2 (rl.on p2 k2 s2) w
theorem c2x(ha:PE X a (TEv Γ Ex (ev ct c x))):PE X (.UnaryOp .Not a pos) (TEv Γ Ex (ev ct c (.nt x))):=by refine PE.imp (b7c ha) ?_;rintro σ H Q ⟨env,ah,m,rl,q⟩;exact⟨env,ah,m,rl,i9.firstB rl q λb bN m1 H1 p1 k1 bP q1=>⟨b,rfl,q1.ok bP.sim rfl⟩⟩
theorem c2C{i7:List Expr}(ha:PE X a (TEv Γ Ex (ev ct c x)))(hb:PE X (.BoolOp .And (b::i7) pos) (TEv Γ Ex (ev ct c y))):PE X (.BoolOp .And (a::b::i7) pos) (TEv Γ Ex (ev ct c (.an x y))):=by
 refine PE.imp (b7g ha hb) ?_;rintro σ H Q ⟨env,ah,m,rl,q⟩;refine⟨env,ah,m,rl,i9.firstB rl q λk bN m1 H1 p1 k1 bP q1=>⟨k,rfl,?_⟩⟩;cases k with
 |true=>rw[az rfl] at q1⊢;exact⟨env,bN,m1,bP,q1⟩
 |false=>rw[aA ∅] at q1⊢;exact q1.ok bP.sim rfl
theorem c1n{i7:List Expr}(ha:PE X a (TEv Γ Ex (ev ct c x)))(hb:PE X (.BoolOp .Or (b::i7) pos) (TEv Γ Ex (ev ct c y))):PE X (.BoolOp .Or (a::b::i7) pos) (TEv Γ Ex (ev ct c (.orr x y))):=by
 refine PE.imp (b9B ha hb) ?_;rintro σ H Q ⟨env,ah,m,rl,q⟩;refine⟨env,ah,m,rl,i9.firstB rl q λk bN m1 H1 p1 k1 bP q1=>⟨k,rfl,?_⟩⟩;cases k with
 |true=>rw[az rfl] at q1⊢;exact q1.ok bP.sim rfl
 |false=>rw[aA ∅] at q1⊢;exact⟨env,bN,m1,bP,q1⟩
variable{t u:T}{v:List Expr}
theorem c1k(he:∀de,isTrue e X.env de=(do let v←de;standAt e.pos;holding [v] (truthy v)))(ha:PE X e (TEv Γ Ex (ev ct c x))):PT X e (TTv Γ Ex (tst ct c (.val x))):=by refine PT.imp (b0S ha he) ?_;rintro σ H Q ⟨env,ah,m,rl,q⟩;refine⟨env,ah,m,rl,q.bool.mp λv H1 hh=>?_⟩;obtain⟨b,rfl,cq,m2,p2,k2,s2,w⟩:=hh;exact⟨b,rfl,w⟩
theorem TTv.next{r:R Bool}{f:Bool->AH->R Bool}{Q Q':Bool->Hp->Prop}(rl:Rel Γ env ah σ H m)(h:k8 Γ Ex m H (r.bind f) (λb _ _ H1=>Q b H1))
 (k:∀b bN m1 H1,Pre m m1->Keep m m1 H H1->Rel Γ env bN σ H1 m1->k8 Γ Ex m1 H1 (f b bN) (λb _ _ H1=>Q b H1)->Q' b H1):k8 Γ Ex m H r (λb _ _ H1=>Q' b H1):=
 h.bind.mp λb bN m1 H1 p1 k1 s1 q1=>k b bN m1 H1 p1 k1 (rl.on p1 k1 s1) q1
theorem c1p(ha:PT X a (TTv Γ Ex (tst ct c t))):PT X (.UnaryOp .Not a pos) (TTv Γ Ex (tst ct c (.nt t))):=by refine PT.imp (b6N ha) ?_;rintro σ H Q ⟨env,ah,m,rl,q⟩;exact⟨env,ah,m,rl,TTv.next rl q λb bN m1 H1 p1 k1 bP q1=>q1.ok bP.sim⟩
theorem c1A{i7:List Expr}(ha:PT X a (TTv Γ Ex (tst ct c t)))(hb:PW X (.BoolOp .And (b::i7) pos) (TTv Γ Ex (tst ct c u))):PW X (.BoolOp .And (a::b::i7) pos) (TTv Γ Ex (tst ct c (.an t u))):=by
 refine PW.imp (b6K ha hb) ?_;rintro σ H Q ⟨env,ah,m,rl,q⟩;refine⟨env,ah,m,rl,TTv.next rl q λk bN m1 H1 p1 k1 bP q1=>?_⟩;cases k with
 |true=>rw[az rfl] at q1⊢;exact⟨env,bN,m1,bP,q1⟩
 |false=>rw[aA ∅] at q1⊢;exact q1.ok bP.sim
theorem c1o{i7:List Expr}(ha:PT X a (TTv Γ Ex (tst ct c t)))(hb:PW X (.BoolOp .Or (b::i7) pos) (TTv Γ Ex (tst ct c u))):PW X (.BoolOp .Or (a::b::i7) pos) (TTv Γ Ex (tst ct c (.orr t u))):=by
 refine PW.imp (b9y ha hb) ?_;rintro σ H Q ⟨env,ah,m,rl,q⟩;refine⟨env,ah,m,rl,TTv.next rl q λk bN m1 H1 p1 k1 bP q1=>?_⟩;cases k with
 |true=>rw[az rfl] at q1⊢;exact q1.ok bP.sim
 |false=>rw[aA ∅] at q1⊢;exact⟨env,bN,m1,bP,q1⟩
theorem b6h{o p:B}{op op':CmpOp}(ha:PE X a (TEv Γ Ex (ev ct c x))):∀σ H Q,TEv Γ Ex (λenv h=>(ev ct c x env h).bind λx1 h1=>(ev ct c y env h1).bind λy1 h2=>(asB (op2 o h2 x1 y1)).bind λk h3=>if k=true then(ev ct c z env h3).bind λz1 h4=>op2 p h4 y1 z1 else .ok (.bl false) h3) σ H Q→
 a7p (rOf Γ Ex (op2 o)) (rOf Γ Ex (op2 p)) (TEv Γ Ex (ev ct c x)) (TEv Γ Ex (ev ct c y)) (TEv Γ Ex (ev ct c z)) σ H Q:=by
 rintro σ H Q ⟨env,ah,m,rl,q⟩;refine⟨env,ah,m,rl,i9.first rl q λd1 bN m1 H1 v1 p1 k1 bP r1 q1=>?_⟩;refine⟨env,bN,m1,bP,i9.first bP q1 λd2 cq m2 H2 v2 p2 k2 cH r2 q2=>?_⟩;refine⟨d1,d2,cq,m2,cH.sim,r1.mono p2 k2,r2,i9.firstB cH q2 λk eT m3 H3 p3 k3 eF q3=>⟨k,rfl,?_⟩⟩;cases k with
 |false=>rw[aA ∅] at q3⊢;exact q3.ok eF.sim rfl
 |true=>
  rw[az rfl] at q3⊢;refine⟨env,eT,m3,eF,i9.first eF q3 λd4 ah4 m4 H4 v4 p4 k4 rl4 r4 q4=>?_⟩;exact⟨d2,d4,ah4,m4,rl4.sim,r2.mono (p3.trans p4) (k3.trans k4),r4,q4⟩
theorem c1x{o p:B}(hu:X.A.units+8<cLine)(hK:X.K=Γ.K)(h:o.cmp=some op)(h':p.cmp=some op')(ha:PE X a (TEv Γ Ex (ev ct c x)))(hb:PE X b (TEv Γ Ex (ev ct c y)))(hd:PE X d (TEv Γ Ex (ev ct c z)))(hm:lastMarks [op,op'] [b,d]=false):
 PE X (.Compare a [op,op'] [b,d] pos) (TEv Γ Ex (ev ct c (.chn o p x y z))):=by
 refine PE.imp (b1o (a2n (Γ:=Γ) (E:=Ex) hu hK h) (a2n (Γ:=Γ) (E:=Ex) hu hK h') ha hb hd hm) λσ H Q q=>b6h (op:=op) (op':=op') ha σ H Q ?_
 simpa only[TEv,ev] using q
theorem b8N{o p:B}(hu:X.A.units+8<cLine)(hK:X.K=Γ.K)(h:o.cmp=some op)(h':p.cmp=some op')(ha:PE X a (TEv Γ Ex (ev ct c x)))(hb:PE X b (TEv Γ Ex (ev ct c y)))(hd:PE X d (TEv Γ Ex (ev ct c z)))(hm:lastMarks [op,op'] [b,d]=false):
 PT X (.Compare a [op,op'] [b,d] pos) (TTv Γ Ex (tst ct c (.chn o p x y z))):=by
 refine PT.imp (b0V (a2n (Γ:=Γ) (E:=Ex) hu hK h) (a2n (Γ:=Γ) (E:=Ex) hu hK h') ha hb hd hm) λσ H Q q=>a2K (b6h (op:=op) (op':=op') (o:=o) (p:=p) (y:=y) (z:=z) ha) σ H Q ?_
 simpa only[TTv,tst] using q
theorem c2A(hu:X.A.units+8<cLine)(hK:X.K=Γ.K)(ha:PE X a (TEv Γ Ex (ev ct c x)))(hb:PE X b (TEv Γ Ex (ev ct c y)))(hs:a2Y b):PE X (.Subscript a b pos) (TEv Γ Ex (ev ct c (.ix x y))):=by
 refine PE.imp (b5U (c0G (Γ:=Γ) (E:=Ex) hu hK) ha hb hs) λσ H Q q=>two (r:=rOf Γ Ex ixD) ha hb σ H Q ?_
 simpa only[TEv,ev] using q
theorem c2w:PO X none (TOv Γ Ex (evo ct c .no)):=by refine PO.imp b4g ?_;rintro σ H Q ⟨env,ah,m,rl,q⟩;exact q.ok rl.sim
theorem c2v(ha:PE X a (TEv Γ Ex (ev ct c x))):PO X (some a) (TOv Γ Ex (evo ct c (.at x))):=by
 refine PO.imp (b4f ha) ?_;rintro σ H Q ⟨env,ah,m,rl,q⟩;rw[b2H,a8K] at q;refine⟨env,ah,m,rl,k8.first rl q λd1 bN m1 H1 v1 p1 k1 bP r1 q1=>?_⟩;cases d1<;>first|exact q1.elim|skip
 cases r1;exact⟨_,rfl,q1.ok bP.sim⟩
variable{l h:Option Expr}{ol oh:O}
theorem c2u(hK:X.K=Γ.K)(ha:PE X a (TEv Γ Ex (ev ct c x)))(hl:PO X l (TOv Γ Ex (evo ct c ol)))(hh:PO X h (TOv Γ Ex (evo ct c oh))):PE X (.Subscript a (.Slice l h none p2) pos) (TEv Γ Ex (ev ct c (.sl x ol oh))):=by refine PE.imp (b1i (c2l (Γ:=Γ) (E:=Ex) hK) ha hl hh) ?_;rintro σ H Q ⟨env,ah,m,rl,q⟩;refine⟨env,ah,m,rl,i9.first rl q λd1 bN m1 H1 v1 p1 k1 bP r1 q1=>?_⟩;refine⟨env,bN,m1,bP,q1.bind.mp λlo cq m2 H2 p2 k2 s2 q2=>?_⟩;refine⟨env,cq,m2,bP.on p2 k2 s2,q2.bind.mp λhi eT m3 H3 p3 k3 s3 q3=>?_⟩;exact⟨d1,eT,m3,s3,r1.mono (p2.trans p3) (k2.trans k3),q3⟩
variable{xs:Es}
theorem c1q:PA X [] (TAv Γ Ex (evs ct c .nil)):=by refine PA.imp a1Y ?_;rintro σ H Q ⟨env,ah,m,rl,q⟩;exact q.ok rl.sim [] rfl
theorem b8K(ha:PE X a (TEv Γ Ex (ev ct c x)))(hr:PA X es (TAv Γ Ex (evs ct c xs)))(hs:starEach (a::es) X.env=(false,eval a X.env)::starEach es X.env):PA X (a::es) (TAv Γ Ex (evs ct c (.cons x xs))):=by refine PA.imp (Q9 ha hr hs) ?_;rintro σ H Q ⟨env,ah,m,rl,q⟩;refine⟨env,ah,m,rl,k8.first rl q λd1 bN m1 H1 v1 p1 k1 bP r1 q1=>?_⟩;refine⟨env,bN,m1,bP,q1.bind.mp λds cq m2 H2 p2 k2 s2 q2=>λvs rs=>?_⟩;exact q2.ok s2 (v1::vs) ⟨v1,vs,rfl,r1.mono p2 k2,rs⟩
theorem c1s(ha:PA X es (TAv Γ Ex (evs ct c xs))):PE X (.List es pos) (TEv Γ Ex (ev ct c (.lst xs))):=by refine PE.imp (b7e ha) ?_;rintro σ H Q ⟨env,ah,m,rl,q⟩;refine⟨env,ah,m,rl,q.bind.mp λds bN m1 H1 p1 k1 s1 q1=>λvs rs=>?_⟩;obtain⟨hl,q1⟩:=ifq q1;exact⟨by rw[rs.len,←R9];exact hl,λp hp=>q1.newc s1 hp ⟨_,i8,rs.mono (Pre.snoc m1 p) (Keep.newc hp)⟩⟩
theorem c1l{k:Nat}(ha:PA X es (TAv Γ Ex (evs ct c xs))):PE X (.Tuple es k pos) (TEv Γ Ex (ev ct c (.tup xs))):=by refine PE.imp (b7a ha) ?_;rintro σ H Q ⟨env,ah,m,rl,q⟩;refine⟨env,ah,m,rl,q.bind.mp λds bN m1 H1 p1 k1 s1 q1=>λvs rs=>?_⟩;obtain⟨hl,q1⟩:=ifq q1;exact⟨by rw[rs.len,←R9];exact hl,λp hp=>q1.newt s1 hp rs⟩
theorem b8H:PE X (.Dict [] [] pos) (TEv Γ Ex (ev ct c .dnew)):=by refine PE.imp b1l ?_;rintro σ H Q ⟨env,ah,m,rl,q⟩;exact λp hp=>q.newc rl.sim hp (.inl ⟨[],i8,.nil⟩)
theorem c1z{b:Bi}(ha:PA X es (TAv Γ Ex (evs ct c xs))):∀σ H Q,TEv Γ Ex (ev ct c (.bi b xs)) σ H Q->tCB (rBi Γ Ex b) (TAv Γ Ex (evs ct c xs)) σ H Q:=by rintro σ H Q ⟨env,ah,m,rl,q⟩;exact⟨env,ah,m,rl,q.bind.mp λds bN m1 H1 p1 k1 s1 q1=>λvs rs=>⟨ds,bN,m1,s1,rs,q1⟩⟩
end
noncomputable def a4W(Γ:Gm)(c:CF)(f np:Nat):Sp:=λvs H Q E=>∃ds ah m,↥ds=np/\Rps m H ds vs/\Sim Γ ah m H/\i9 Γ E m H (c f ds ah) Q
theorem n5{a:Expr}{env:Env}(h:v7 a=true):starEach (a::es) env=(false,eval a env)::starEach es env:=by cases a<;>first|rfl|cases h
theorem R8{pos:Pos}{env:Env}:∀{es:List Expr},es.all v7=true->(backTo pos (starEach es env)).any (·.1)=false
 |[],_=>rfl
 |a::es,h=>by rw[all_cons,ae] at h;rw[n5 h.1];exact R8 (es:=es) h.2
theorem a4n{pos:Pos}{env:Env}:∀{es:List Expr},es.all v7=true->(backTo pos (starEach es env)).all (λx=>!x.1)=true
 |[],_=>rfl
 |a::es,h=>by rw[all_cons,ae] at h;rw[n5 h.1];exact a4n (es:=es) h.2
theorem a1n{o:Expr}{env:Env}{w:Sem Value}(h:a0W o=true):attributeBase o f env w=w:=by
 unfold attributeBase;split
 · cases h
 · rfl
def b0g(P:Program)(w:World)(K:PySem.W.Frag)(a:Addr)(gs:List (Key×V)):Prop:=(a==sysModules)=false/\∃vs,KV gs vs/\∀h:Heap,K.In h->h.DictOf (z9 P w) a vs
structure Cxt(X:Cx)(Γ:Gm)(G:GT)(ct:CT)(c:CF)(Ex:XK)(N:List Str)(sc:Scope)(bV:Bool):Prop where
 hN:X.N=N
 nd:N.Nodup
 sc:X.env.scope=sc
 calm:X.calm=true
 hu:X.A.units+8<cLine
 K:X.K=Γ.K
 fnb:bV=true->∀x,X.fn x=true
 scal:∀x d,G.scal.lookup x=some d->∃u v,X.mg x=some u/\l8 v u/\∀m H,Rp m H d v
 tups:∀x ds,G.tups.lookup x=some ds->∃a vs,X.mg x= ~~~a/\(∀H,SqT X.K H a vs)/\∀m H,Rps m H ds vs
 dicts:∀x bF,G.dicts.lookup x=some bF->∃a gs,X.mg x= ~~~a/\b0g X.prog X.w X.K a gs/\∀m H,DK m H bF gs
 blt:∀x,G.blt.contains x=true->X.mg x=none
 fn:∀x f np,G.fn.lookup x=some (f,np)->∃k a fd ps,↥ps=np/\Room k X.A/\X.mg x= ~~~a/\PySem.W.keepIn X.K (.ref a)=true/\U0 X.K fd ps []/\FnOk X.prog X.w X.K X.mg X.base CX0 k a fd ps (a4W Γ c f np)/\∀ds h,↥ds≠np->c f ds h=.no
 obj:∀x k,G.obj.lookup x=some k->k∈Γ.ob/\∃r a fd ps,↥ps=1/\Room (r+1) X.A/\Mk X.K (Γ.cA k) a/\X.mg x=some (.ref (Γ.cA k))/\U0 X.K fd ps []/\FnOk X.prog X.w X.K X.mg X.base CX0 r a fd ps (a4W Γ c (ct.init k) 1)
 att:∀k,k∈Γ.ob->Cls X.K (Γ.cA k)/\∀f,G.atts.contains f=true->a0v X.K (Γ.cA k) f
variable{np:Nat}{K:PySem.W.Frag}{ad:Addr}{cx:Pos}
section
variable{X:Cx}{G:GT}{ct:CT}{c:CF}{Ex:XK}{N:List Str}{sc:Scope}{bV:Bool}{e a b:Expr}{pos p:Pos}{x y z:E}{xs:Es}
theorem a0c{n:Str}(h:Q3 sc n=true):sc.names.lookup n=some .globalImplicit/\(n==("__debug__":Str))=false/\n≠"__name__":=by unfold Q3 at h;rw[ae,ae] at h;exact⟨ax h.1.1,beq_eq_false_iff_ne.mpr (ax h.1.2),ax h.2⟩
theorem Cxt.gl(C:Cxt X Γ G ct c Ex N sc bV){n:Str}(h:Q3 sc n=true):Gl X n:=by show X.env.scope.names.lookup n=_;rw[C.sc];exact(a0c h).1
theorem Cxt.vis(C:Cxt X Γ G ct c Ex N sc bV){n:Str}(h:b1R sc n=true):Vis X.env.scope n:=by
 rw[C.sc];unfold b1R at h;unfold Vis;split at h
 · rename_i e;exact .inl e
 · rename_i e;exact .inr (.inl e)
 · rename_i e;exact .inr (.inr e)
 · cases h
theorem a5x{N:List Str}{n:Str}{i:Nat}(h:N.idxOf? n=some i):N[i]? =some n:=by unfold List.idxOf? at h;rw[List.findIdx?_eq_some_iff_getElem] at h;obtain⟨h1,h2,_⟩:=h;rw[ai h1];exact congrArg some (eq_of_beq h2)
theorem b8O{n:Str}{f:Nat}(C:Cxt X Γ G ct c Ex N sc bV)(hf:G.fn.lookup n=some (f,np))(hg:Q3 sc n=true)(hp:(a::es).all v7=true)(ha:PA X (a::es) (TAv Γ Ex (evs ct c xs))):
 PE X (.Call (.Name n p) (a::es) [] pos) (TEv Γ Ex (ev ct c (.call f xs))):=by
 obtain⟨k,ad,fd,ps,h1,h2,h3,h4,h5,h6,h7⟩:=C.fn n f np hf;rw[all_cons,ae] at hp;refine PE.imp (b4q h6 h2 (C.gl hg) h3 h4 h5 .nil b5V ha (a0c hg).2.1 (n5 hp.1) (R8 hp.2)) ?_;rintro σ H Q ⟨env,ah,m,rl,q⟩;refine⟨env,ah,m,rl,q.bind.mp λds bN m1 H1 p1 k1 s1 q1=>λvs rs=>⟨ds,bN,m1,?_,by rw[bc];exact rs,s1,q1⟩⟩
 by_cases hl:↥ds=np
 · exact hl
 · rw[h7 ds bN hl] at q1;exact q1.elim
theorem c2z{n:Str}{k:Nat}(C:Cxt X Γ G ct c Ex N sc bV)(hf:G.obj.lookup n=some k)(hg:Q3 sc n=true):PE X (.Call (.Name n p) [] [] pos) (TEv Γ Ex (ev ct c (.mk k .nil))):=by
 obtain⟨hk,r,ad,fd,ps,h1,h2,h3,h4,h5,h6⟩:=C.obj n k hf;refine PE.imp (b1j h3 h6 h2 (C.gl hg) h4 h5 .nil b5V (a0c hg).2.1) ?_;rintro σ H Q ⟨env,ah,m,rl,q⟩;rw[b6d,a8S,d9] at q;intro x dx hx hdx eR;have kp:Keep m (m++[x]) H (upd (upd H dx (.own x)) x (.ins (Γ.cA k) dx [])):=(Keep.new hdx).trans (Keep.newc (by rw[m8 (Ne.symm eR)];exact hx));have s1:Sim Γ (ah++[.obj k []]) (m++[x]) (upd (upd H dx (.own x)) x (.ins (Γ.cA k) dx [])):=(rl.sim.new (o:=.own x) hdx).alloc (by rw[m8 (Ne.symm eR)];exact hx) ⟨dx,[],i8,.nil,hk⟩;refine⟨[.ref ↥ah],ah++[.obj k []],m++[x],rfl,⟨.ref x,[],rfl,⟨x,rfl,?_⟩,rfl⟩,s1,?_⟩
 · rw[←rl.sim.len,av (aj _)];simp
 · refine(q.bind.later (Pre.snoc m x) kp).val λd bN m1 H1 v p1 k1 s1 r1 q1=>?_;cases d<;>first|exact q1.elim|skip
   cases r1;refine⟨rfl,q1.ok s1 ⟨x,rfl,p1.get ?_⟩⟩;rw[←rl.sim.len,av (aj _)];simp
theorem c1v(C:Cxt X Γ G ct c Ex N sc bV)(hb:a0W a=true)(hf:G.atts.contains f=true)(ha:PE X a (TEv Γ Ex (ev ct c x))):PE X (.Attribute a f pos) (TEv Γ Ex (ev ct c (.fld x f))):=by
 refine PE.imp (b7f (pos:=pos) ha (a1n (f:=f) hb)) ?_;rintro σ H Q ⟨env,ah,m,rl,q⟩;refine⟨env,ah,m,rl,i9.first rl q λd1 bN m1 H1 v1 p1 k1 bP r1 q1=>?_⟩;unfold W8 at q1;split at q1
 · split at q1
   · rename_i k fs e2;split at q1
     · rename_i d e3;obtain⟨ad,rfl,hm1⟩:=r1;obtain⟨dx,gs,g1,g2,g3⟩:=bP.sim.at hm1 e2;obtain⟨w,hw,dn⟩:=g2.look e3;obtain⟨a1,a2⟩:=C.att k g3;exact⟨ad,Γ.cA k,dx,gs,w,rfl,g1,a1,a2 f hf,hw,q1.ok bP.sim dn⟩
     · exact q1.elim
   · exact q1.elim
 · exact q1.elim
theorem b1H{T:String}:PySem.W.kitOne K (.type T) (.type T)=some true:=by unfold PySem.W.kitOne;rw[az ⋯]
theorem c1u{k:Nat}{y:Str}(hk:b7M y=some k)(C:Cxt X Γ G ct c Ex N sc bV)(hg:Q3 sc "isinstance"=true)(hm:X.mg "isinstance"=none)(hg2:Q3 sc y=true)(dW:X.mg y=none)(hp:v7 a=true)(ha:PE X a (TEv Γ Ex (ev ct c x))):
 PE X (.Call (.Name "isinstance" p) [a,.Name y p2] [] pos) (TEv Γ Ex (ev ct c (.ins k x))):=by
 obtain⟨T,hT,hi⟩:∃T:String,PE X (.Name y p2) (tC (.ty T))/\∀{ah:AH} {m:List Addr} {H:Hp} {d:D} {v:V} {b:Bool},Sim Γ ah m H->Rp m H d v->a1E ah k d=some b->∃t,TyOf X.K H v t/\PySem.W.kitOne X.K t (.type T)=some b:=by
  unfold b7M at hk
  repeat' split at hk
  all_goals (first|(cases hk;done)|(cases hk;rename_i e;subst e))
  · refine⟨"bool",a1y (C.gl hg2) dW PyProof.Rows.boot_bool rfl ∅ ∅,fun{ah m H d v b} S r1 e=>?_⟩;cases d<;>first|(cases e;cases r1;first|exact⟨_,.bl _,b1H⟩|exact⟨_,.int _,by with_unfolding_all rfl⟩)|(cases e;done)|(unfold a1E at e;simp only at e;split at e<;>cases e)
  · refine⟨"int",a1y (C.gl hg2) dW PyProof.Rows.boot_int rfl ∅ ∅,fun{ah m H d v b} S r1 e=>?_⟩;cases d<;>first|(cases e;cases r1;first|exact⟨_,.int _,b1H⟩|exact⟨_,.bl _,by with_unfolding_all rfl⟩)|(cases e;done)|(unfold a1E at e;simp only at e;split at e<;>cases e)
  · refine⟨"list",a1y (C.gl hg2) dW PyProof.Rows.boot_list rfl ∅ ∅,fun{ah m H d v b} S r1 e=>?_⟩;cases d<;>first|(cases e;done)|skip
    unfold a1E at e;simp only at e;split at e
    · rename_i e0;cases e;obtain⟨ad,vs,rfl,_,h1,_⟩:=S.lst e0 r1;exact⟨_,.lst h1,b1H⟩
    · cases e
  · refine⟨"tuple",a1y (C.gl hg2) dW PyProof.Rows.boot_tuple rfl ∅ ∅,fun{ah m H d v b} S r1 e=>?_⟩;cases d<;>first|(cases e;obtain⟨ad,vs,rfl,h1,_⟩:=r1;exact⟨_,.tup h1,b1H⟩)|(cases e;done)|(unfold a1E at e;simp only at e;split at e<;>cases e)
  · refine⟨"str",a1y (C.gl hg2) dW PyProof.Rows.boot_str rfl ∅ ∅,fun{ah m H d v b} S r1 e=>?_⟩;cases d<;>first|(cases e;cases r1;exact⟨_,.str _,b1H⟩)|(cases e;done)|(unfold a1E at e;simp only at e;split at e<;>cases e)
 have PAab:PA X [a,.Name y p2] (b0x (TEv Γ Ex (ev ct c x)) (b0x (tC (.ty T)) b6v)):=Q9 ha (Q9 hT a1Y (n5 rfl)) (n5 hp);refine PE.imp (Z0 b3a (C.gl hg) hm PyProof.Rows.boot_isinstance PAab ∅ ∅ (n5 hp) (R8 rfl)) ?_;rintro σ H Q ⟨env,ah,m,rl,q⟩;refine⟨env,ah,m,rl,i9.first rl q λd1 bN m1 H1 v1 p1 k1' bP r1 q1=>?_⟩;split at q1
 · rename_i b e;obtain⟨t,h1,h2⟩:=hi bP.sim r1 e;exact⟨_,T,t,b,rfl,h1,h2,q1.ok bP.sim rfl⟩
 · exact q1.elim
theorem a8Q(h1:∀H,SqT X.K H ad vs)(h2:∀m H,Rps m H ds vs):∀σ H Q,TEv Γ Ex (ev ct c (.gin neg x ds)) σ H Q->tOp (rIn X.K neg) (TEv Γ Ex (ev ct c x)) (tC (.ref ad)) σ H Q:=by
 rintro σ H Q ⟨env,ah,m,rl,q⟩;refine⟨env,ah,m,rl,i9.first rl q λd1 bN m1 H1 v1 p1 k1 bP r1 q1=>?_⟩;obtain⟨hf,q1⟩:=ifq q1;refine⟨ad,vs,rfl,.inr (h1 H1),O0 r1 hf.1,O6 (h2 m1 H1) hf.2,?_⟩;rw[a0d r1 hf.1 (h2 m1 H1) hf.2] at q1;cases neg with
 |false=>rw[a3U] at q1;exact q1.ok bP.sim rfl
 |true=>rw[a3T] at q1;exact q1.ok bP.sim rfl
theorem b6k{n:Str}(C:Cxt X Γ G ct c Ex N sc bV)(ho:(op=.In/\neg=false)∨(op=.NotIn/\neg=true))(hg:Q3 sc n=true)(ht:G.tups.lookup n=some ds)(ha:PE X a (TEv Γ Ex (ev ct c x))):
 PE X (.Compare a [op] [.Name n p] pos) (TEv Γ Ex (ev ct c (.gin neg x ds)))/\PT X (.Compare a [op] [.Name n p] pos) (TTv Γ Ex (tst ct c (.val (.gin neg x ds)))):=by
 obtain⟨ad,vs,h1,h2,h3⟩:=C.tups n ds ht;have hb:PE X (.Name n p) (tC (.ref ad)):=a2P (C.gl hg) h1 rfl (a0c hg).2.1;have dG:OpR X (compareOp op) (rIn X.K neg):=by
  rcases ho with⟨rfl,rfl⟩|⟨rfl,rfl⟩
  · exact a0A
  · exact R3
 refine⟨PE.imp (a5f dG ha hb rfl) (a8Q h2 h3),PT.imp (a5e dG ha hb rfl) λσ H Q q=>a2K (a8Q (neg:=neg) h2 h3) σ H Q ?_⟩
 simpa only[TTv,tst] using q
def rMd(a:Addr)(gs:List (Key×V))(neg:Bool):R2:=λx y H Q=>∃k,x=kV k/\y=.ref a/\Q (.bl ((V2 gs k).isSome !=neg)) H
theorem b7n(d:b0g X.prog X.w X.K ad gs):OpR X (compareOp .In) (rMd ad gs false):=by intro bE s σ H x y v u Q I rx ry h;obtain⟨k,rfl,rfl,q⟩:=h;cases ry;obtain⟨hd,vs,cy,dd⟩:=d;refine wpAny_in_of (a0a rx) hd (dd _ I.kIn).mapOf ?_;rw[←(cy.val k).isSome_eq];rw[a3U] at q;exact⟨.bl _,H,I.tok _,rfl,q⟩
theorem a9C(d:b0g X.prog X.w X.K ad gs):OpR X (compareOp .NotIn) (rMd ad gs true):=by intro bE s σ H x y v u Q I rx ry h;obtain⟨k,rfl,rfl,q⟩:=h;cases ry;obtain⟨hd,vs,cy,dd⟩:=d;refine wpAny_notIn_of (a0a rx) hd (dd _ I.kIn).mapOf ?_;rw[←(cy.val k).isSome_eq];rw[a3T] at q;exact⟨.bl _,H,I.tok _,rfl,q⟩
def rMx(a:Addr)(gs:List (Key×V)):R2:=λx y H Q=>∃k v,x=.ref a/\y=kV k/\V2 gs k=some v/\Q v H
theorem c2c(d:b0g X.prog X.w X.K ad gs):IxR X (rMx ad gs):=by rintro value slice bE s σ H x y v u Q I rx ry ⟨k,z,rfl,rfl,hz,q⟩ hs;cases rx;obtain⟨hd,vs,cy,dd⟩:=d;have dd:=dd _ I.kIn;obtain⟨w',hw,dn⟩:=a0J.some_of (v:=z) (o:=valueAt vs k) (by rw[←hz];exact cy.val k);exact c0G.ixd_tail dd.typeIs hs (wpAny_getItem_of (a0a ry) dd.mapOf hw ⟨z,H,I.tok _,dn,q⟩)
theorem a6L(h2:∀m H,DK m H bF gs):∀σ H Q,TEv Γ Ex (ev ct c (.gdin neg x bF)) σ H Q->tOp (rMd ad gs neg) (TEv Γ Ex (ev ct c x)) (tC (.ref ad)) σ H Q:=by rintro σ H Q ⟨env,ah,m,rl,q⟩;refine⟨env,ah,m,rl,i9.first rl q λd1 bN m1 H1 v1 p1 k1 bP r1 q1=>?_⟩;obtain⟨hf,q1⟩:=ifq q1;obtain⟨k,hk⟩:=Option.isSome_iff_exists.mp hf;refine⟨k,W7 hk r1,rfl,?_⟩;rw[(h2 m1 H1).some_eq hk] at q1;exact q1.ok bP.sim rfl
theorem b3o{n:Str}(C:Cxt X Γ G ct c Ex N sc bV)(ho:(op=.In/\neg=false)∨(op=.NotIn/\neg=true))(hg:Q3 sc n=true)(ht:G.dicts.lookup n=some bF)(ha:PE X a (TEv Γ Ex (ev ct c x))):
 PE X (.Compare a [op] [.Name n p] pos) (TEv Γ Ex (ev ct c (.gdin neg x bF)))/\PT X (.Compare a [op] [.Name n p] pos) (TTv Γ Ex (tst ct c (.val (.gdin neg x bF)))):=by
 obtain⟨ad,gs,h1,h2,h3⟩:=C.dicts n bF ht;have hb:PE X (.Name n p) (tC (.ref ad)):=a2P (C.gl hg) h1 rfl (a0c hg).2.1;have dG:OpR X (compareOp op) (rMd ad gs neg):=by
  rcases ho with⟨rfl,rfl⟩|⟨rfl,rfl⟩
  · exact b7n h2
  · exact a9C h2
 refine⟨PE.imp (a5f dG ha hb rfl) (a6L h3),PT.imp (a5e dG ha hb rfl) λσ H Q q=>a2K (a6L (neg:=neg) (ad:=ad) h3) σ H Q ?_⟩
 simpa only[TTv,tst] using q
theorem b8F{n:Str}(C:Cxt X Γ G ct c Ex N sc bV)(hg:Q3 sc n=true)(ht:G.dicts.lookup n=some bF)(hb:PE X b (TEv Γ Ex (ev ct c y)))(hs:a2Y b):
 PE X (.Subscript (.Name n p) b pos) (TEv Γ Ex (ev ct c (.gdix y bF))):=by
 obtain⟨ad,gs,h1,h2,h3⟩:=C.dicts n bF ht;have ha:PE X (.Name n p) (tC (.ref ad)):=a2P (C.gl hg) h1 rfl (a0c hg).2.1;refine PE.imp (b5U (c2c h2) ha hb hs) ?_;rintro σ H Q ⟨env,ah,m,rl,q⟩;refine⟨env,ah,m,rl,i9.first rl q λd1 bN m1 H1 v1 p1 k1 bP r1 q1=>?_⟩;obtain⟨hf,q1⟩:=ifq q1;obtain⟨k,hk⟩:=Option.isSome_iff_exists.mp hf;split at q1
 · rename_i d hd;obtain⟨v,hv,rv⟩:=((h3 m1 H1).val hk).1 d hd;exact⟨k,v,rfl,W7 hk r1,hv,q1.ok bP.sim rv⟩
 · exact q1.elim
theorem c2B{n:Str}{b:Bi}(C:Cxt X Γ G ct c Ex N sc bV)(hb:b8v n=some b)(hg:Q3 sc n=true)(hm:X.mg n=none)(hp:(a::es).all v7=true)(ha:PA X (a::es) (TAv Γ Ex (evs ct c xs))):
 PE X (.Call (.Name n p) (a::es) [] pos) (TEv Γ Ex (ev ct c (.bi b xs))):=by
 obtain⟨_,hd,hn⟩:=a0c hg;rw[all_cons,ae] at hp;have s1:=n5 (es:=es) (env:=X.env) hp.1;have s2:=R8 (pos:=pos) (env:=X.env) hp.2;have go:∀{b:Bi} {t:TE},PE X (.Call (.Name n p) (a::es) [] pos) (tCB (rBi Γ Ex b) (TAv Γ Ex (evs ct c xs)))->PE X (.Call (.Name n p) (a::es) [] pos) (TEv Γ Ex (ev ct c (.bi b xs))):=λh=>PE.imp h (c1z ha);unfold b8v at hb
 repeat' split at hb
 all_goals (first|(cases hb;done)|(cases hb;rename_i e;subst e))
 · exact go (t:=tCB (rBi Γ Ex .len) (TAv Γ Ex (evs ct c xs))) (Z0 (c0U C.K) (C.gl hg) hm PySem.boot_len ha hn hd s1 s2)
 · exact go (t:=tCB (rBi Γ Ex .len) (TAv Γ Ex (evs ct c xs))) (V4 c0S (C.gl hg) hm PyProof.Rows.boot_str ha hn hd s1 s2)
 · exact go (t:=tCB (rBi Γ Ex .len) (TAv Γ Ex (evs ct c xs))) (V4 c0V (C.gl hg) hm PyProof.Rows.boot_int ha hn hd s1 s2)
 · exact go (t:=tCB (rBi Γ Ex .len) (TAv Γ Ex (evs ct c xs))) (V4 (b5E C.K) (C.gl hg) hm PyProof.Rows.boot_tuple ha hn hd s1 s2)
 · exact go (t:=tCB (rBi Γ Ex .len) (TAv Γ Ex (evs ct c xs))) (V4 (b8r C.K) (C.gl hg) hm PyProof.Rows.boot_list ha hn hd s1 s2)
 · exact go (t:=tCB (rBi Γ Ex .len) (TAv Γ Ex (evs ct c xs))) (Z0 (c0X C.calm C.K) (C.gl hg) hm PyProof.Rows.boot_all ha hn hd s1 s2)
 · exact go (t:=tCB (rBi Γ Ex .len) (TAv Γ Ex (evs ct c xs))) (Z0 (c0W C.calm C.K) (C.gl hg) hm PyProof.Rows.boot_any ha hn hd s1 s2)
 · exact go (t:=tCB (rBi Γ Ex .len) (TAv Γ Ex (evs ct c xs))) (Z0 (c0T C.calm) (C.gl hg) hm PyProof.Rows.boot_max ha hn hd s1 s2)
 · exact go (t:=tCB (rBi Γ Ex .len) (TAv Γ Ex (evs ct c xs))) (V4 (b8s C.calm C.K) (C.gl hg) hm PyProof.Rows.boot_dict ha hn hd s1 s2)
theorem a3D{b:Mt}{T:String}(hK:X.K=Γ.K)(hT:(T="list"/\(b=.append∨b=.extend))∨(T="str"/\(b=.split∨b=.join∨b=.starts))):∀σ H Q,TEv Γ Ex (ev ct c (.mt b x xs)) σ H Q->tBM X.K T (rMt Γ Ex b) (TEv Γ Ex (ev ct c x)) (TAv Γ Ex (evs ct c xs)) σ H Q:=by
 rintro σ H Q ⟨env,ah,m,rl,q⟩;refine⟨env,ah,m,rl,i9.first rl q λd1 bN m1 H1 v1 p1 k1 bP r1 q1=>?_⟩;split at q1
 · rename_i ht;refine⟨?_,env,bN,m1,bP,q1.bind.mp λds cq m2 H2 p2 k2 s2 q2=>λvs rs=>⟨d1,ds,cq,m2,s2,r1.mono p2 k2,rs,q2⟩⟩;unfold mtT at ht;split at ht
   · cases r1;rcases hT with⟨rfl,rfl|rfl⟩|⟨rfl,_⟩
     · cases ht
     · cases ht
     · rfl
   · rename_i n;rcases hT with⟨rfl,hb⟩|⟨rfl,rfl|rfl|rfl⟩
     · have hs:(rdL bN n).isSome=true:=by rcases hb with rfl|rfl<;>exact ht
       obtain⟨l,hl⟩:=Option.isSome_iff_exists.mp hs;obtain⟨ad,vs,rfl,_,h1,_⟩:=bP.sim.rdL hl r1;exact .inl ⟨rfl,vs,by rw[hK];exact h1⟩
     · cases ht
     · cases ht
     · cases ht
   · cases ht
 · exact q1.elim
theorem c2y{n:Str}{b:Mt}(C:Cxt X Γ G ct c Ex N sc bV)(hb:b7v n=some b)(hpb:a0W e=true)(cX:(cx.endLine==pos.line)=true)(bU:↥(a::es)<20)(hp:(a::es).all v7=true)(ho:PE X e (TEv Γ Ex (ev ct c x)))(ha:PA X (a::es) (TAv Γ Ex (evs ct c xs))):
 PE X (.Call (.Attribute e n cx) (a::es) [] pos) (TEv Γ Ex (ev ct c (.mt b x xs))):=by
 have hp':=hp;rw[all_cons,ae] at hp;have s1:=n5 (es:=es) (env:=X.env) hp.1;have s2:=R8 (pos:=pos) (env:=X.env) hp.2;have dy:=a1n (f:=n) (env:=X.env) (w:=eval e X.env) hpb;have eu:((backTo pos (starEach (a::es) X.env)).all (λx=>!x.1)&&(backToKw pos (keywordEach [] X.env)).all (λx=>x.1.isSome)
  &&decide (↥(a::es)+↥([]:List Keyword)+(if([]:List Keyword).isEmpty then 0 else 1)<30))=true:=by
  rw[ae,ae];refine⟨⟨a4n hp',rfl⟩,bf ?_⟩;show(a::es).length+0+0<30;ac_nf
 unfold b7v at hb
 repeat' split at hb
 all_goals (first|(cases hb;done)|(cases hb;rename_i e0;subst e0))
 · exact PE.imp (a6s PySem.F.plainAttrs_list PySem.F.slot_list_append PySem.F.type_list_append (b1D (Γ:=Γ) (E:=Ex)) ho ha dy eu cX s1 s2) (a3D C.K (.inl ⟨rfl,.inl rfl⟩))
 · exact PE.imp (a6s PySem.F.plainAttrs_list PySem.F.slot_list_extend PySem.F.type_list_extend (b1C (Γ:=Γ) (E:=Ex)) ho ha dy eu cX s1 s2) (a3D C.K (.inl ⟨rfl,.inr rfl⟩))
 · exact PE.imp (a6s PySem.F.plainAttrs_str PySem.F.slot_str_split PySem.F.type_str_split (b4G (Γ:=Γ) (E:=Ex)) ho ha dy eu cX s1 s2) (a3D C.K (.inr ⟨rfl,.inl rfl⟩))
 · exact PE.imp (a6s PySem.F.plainAttrs_str PySem.F.slot_str_join PySem.F.type_str_join (b7w (Γ:=Γ) (E:=Ex) C.K) ho ha dy eu cX s1 s2) (a3D C.K (.inr ⟨rfl,.inr (.inl rfl)⟩))
 · exact PE.imp (a6s PySem.F.plainAttrs_str PySem.F.slot_str_startswith PySem.F.type_str_startswith (b1B (Γ:=Γ) (E:=Ex)) ho ha dy eu cX s1 s2) (a3D C.K (.inr ⟨rfl,.inr (.inr rfl)⟩))
end
end EV
namespace L2
open PySem PySem.Spec PyProof.Rows
theorem a3E:∀(gs bR:List (Key×V)),((bR++gs).map (·.1)).Nodup->W5 bR gs=bR++gs
 |[],bR,_=>by rw[bc];rfl
 | g::gs,bR,h=>by
  have h2:((bR++[g]++gs).map (·.1)).Nodup:=by rw[aB];exact h
  have hn:(bR.any λkv=>decide (kv.1=g.1))=false:=by
   rw[List.any_eq_false];intro p hp;have e:p.1≠g.1:=by rw[aq,nodup_append] at h;exact h.2.2 p.1 (ao.mpr ⟨p,hp,rfl⟩) g.1 ⋯
   simp[e]
  show W5 (Q1 bR g.1 g.2) gs=_;rw[show Q1 bR g.1 g.2=bR++[g] by unfold Q1;rw[hn];rfl,a3E gs _ h2,aB];rfl
variable{H:Hp}
theorem a9h{p:Addr}{a b:HO}:upd (upd H p a) p b=upd H p b:=by
 funext x
 by_cases h:x=p
 · subst h;rw[i8,i8]
 · rw[m8 h,m8 h,m8 h]
noncomputable def b6x(X:Cx)(td ty tx:TE):TE:=λσ H Q=>td σ H λx H1=>∃a,x=.ref a/\IsD H1 a/\ty σ H1 λy H2=>tx σ H2 λz H3=>∃H4,(∀bE σ s,Inv X bE σ H3 s->Inv X bE σ H4 s)/\∃o,a8e H4 a y o/\Q (o.getD z) H4
variable{X:Cx}{e:Expr}{cx:Pos}
theorem b1m{o f:Expr}{cb:Pos}{td ty tx:TE}(hu:X.A.units+1<cLine)(ho:PE X o td)(he:PE X e ty)(hf:PE X f tx)(m:M2 X o "get" cx e f cb):PE X (.Call (.Attribute o "get" cx) [e,f] [] cb) (b6x X td ty tx):=by intro bE s σ H Q I h;refine wpAny_Call_method m.base m.few m.line PySem.F.plainAttrs_dict PySem.F.slot_dict_get PySem.F.type_dict_get (thn (ho bE s σ H _ I h) λu s1 hh=>?_);obtain⟨x,H1,I1,rx,a,ex,d,q1⟩:=hh;subst ex;obtain rfl:u=Value.ref a:=rx;obtain⟨t1,t2,_⟩:=b7K I1 d;refine⟨t1,t2,?_⟩;rw[m.trees];refine Calls.callWith_builtin rfl (Calls.evalArgs_plain (Calls.spliced_cons (thn (he bE s1 σ H1 _ I1 q1) λiv s2 hh2=>?_)));obtain⟨y,H2,I2,ry,q2⟩:=hh2;refine Calls.spliced_cons (thn (hf bE s2 σ H2 _ I2 q2) λfv s3 hh3=>Calls.spliced_nil ?_);obtain⟨z,H3,I3,rz,H4,iv4,ov,g,q3⟩:=hh3;exact b8m hu (iv4 _ _ _ I3) g ry rz λw' s4 I4 dn=>⟨_,H4,I4,dn,q3⟩
end L2
namespace EV
open PySem PySem.Spec L2
open PyProof.Rows hiding St
noncomputable def kDg:Key->D
 |.inl i=>.int i
 |.inr x=>.str x
theorem a4v:∀{l:List D},a5k l=true->l.Nodup
 |[],_=>.nil
 |d::r,h=>by rw[a5k,ae] at h;refine aX.mpr ⟨λm=>?_,a4v h.2⟩;have:=h.1;rw[bq.mpr ⟨d,m,bf rfl⟩] at this;cases this
variable{bF:List (D×D)}{m:List Addr}{H:Hp}{cx:Pos}
section
variable{X:Cx}{Γ:Gm}{G:GT}{ct:CT}{c:CF}{Ex:XK}{N:List Str}{sc:Scope}{bV:Bool}{e a b:Expr}{pos p:Pos}{x y z:E}
theorem b5A{e:Expr}{x:Str}(h:b8n e=some x):∃k q,e=.Constant (.str x) k q:=by
 unfold b8n at h;split at h
 · split at h
   · cases h;exact⟨_,_,rfl⟩
   · cases h
 · cases h
theorem b5B{e:Expr}{i:Int}(h:b8o e=some i):∃k q,e=.Constant (.int i) k q:=by
 unfold b8o at h;split at h
 · split at h
   · cases h;exact⟨_,_,rfl⟩
   · cases h
 · cases h
theorem b6e:∀{ks:List (Option Expr)} {vs:List Expr} {bF:List (D×D)},b0a ks vs=some bF->∃eE gs,PPs X pos ks vs eE/\ks.all (·.isSome)=true/\↥ks=↥vs/\↥ks=↥bF/\↥gs=↥bF/\bF.map (·.1)=(gs.map (·.1)).map kDg∧
 (∀σ H Q,Q (gs.map λkv=>(kV kv.1,kv.2)) H->a4T eE σ H Q)/\∀m H,DK m H bF gs
 |[],vs,bF,h=>by unfold b0a at h;obtain⟨e,h⟩:=ifs h;cases isEmpty_iff.mp e;cases h;exact⟨[],[],b4e,rfl,rfl,rfl,rfl,rfl,λ_ _ _ q=>q,λ_ _=>.nil⟩
 |k::ks,vs,bF,h=>by
  unfold b0a at h;split at h
  · cases h
  · rename_i v r;split at h
    · rename_i s i l h1 h2 h3;cases h;obtain⟨e,rfl,h1⟩:=Option.bind_eq_some_iff.mp h1;obtain⟨_,_,rfl⟩:=b5A h1;obtain⟨_,_,rfl⟩:=b5B h2;obtain⟨eE,gs,g1,g2,g3,g4,g5,g6,g7,g8⟩:=b6e h3;exact⟨(tC (.str s),tC (.int i))::eE,(.inr s,.int i)::gs,b1d b1h b1k g1,g2,congrArg (· +1) g3,congrArg (· +1) g4,congrArg (· +1) g5,by rw[map_cons,g6];rfl,λσ H Q q=>g7 σ H _ q,λm H=>.cons ⟨rfl,rfl⟩ (g8 m H)⟩
    · cases h
theorem b8I{ks:List (Option Expr)}{vs:List Expr}(h0:ks≠[])(h:b0a ks vs=some bF)(hk:b8k bF=true):PE X (.Dict ks vs pos) (TEv Γ Ex (ev ct c (.dlit bF))):=by
 unfold b8k at hk;rw[ae] at hk;have h15:=ax hk.1;obtain⟨eE,gs,g1,g2,g3,g4,g5,g6,g7,g8⟩:=b6e (X:=X) (pos:=pos) h;have nd:(gs.map (·.1)).Nodup:=by have:=a4v hk.2;rw[g6] at this;exact List.Pairwise.of_map _ (λa b h e=>h (by rw[e])) this
 refine PE.imp (b4p g1 g2 g3 h0 nofun) ?_;rintro σ H Q ⟨env,ah,m,rl,q⟩;intro p hp;refine g7 σ _ _ ⟨i8,gs,rfl,by ac_nf,?_⟩;rw[a9h,a3E gs [] nd];exact q.newc rl.sim hp (.inl ⟨gs,i8,g8 _ _⟩)
theorem c0N{k:D}:∀{bF:List (D×D)} {gs:List (List Key×V)},DT m H bF gs->D6 k bF=true->(K7 k).isSome=true->bF.isEmpty=true
 |_,_,.nil,_,_=>rfl
 |p::ps,_,.cons h t,hk,hs=>by obtain⟨⟨l,e1,e2⟩,_⟩:=h;unfold D6 at hk;rw[all_cons,e1] at hk;simp only[K5,e2,Option.isSome_some,if_true] at hk;cases k<;>simp[K7,K5] at hk hs
theorem b8J(C:Cxt X Γ G ct c Ex N sc bV)(hpb:a0W e=true)(cX:(cx.endLine==pos.line)=true)(hpa:v7 a=true)(hpc:v7 b=true)(ho:PE X e (TEv Γ Ex (ev ct c x)))(ha:PE X a (TEv Γ Ex (ev ct c y)))(hb:PE X b (TEv Γ Ex (ev ct c z))):
 PE X (.Call (.Attribute e "get" cx) [a,b] [] pos) (TEv Γ Ex (ev ct c (.dget x y z))):=by
 have t:backTo pos (starEach [a,b] X.env)=[(false,eval a X.env),(false,eval b X.env)]:=by rw[n5 hpa,n5 hpc];rfl
 refine PE.imp (b1m (hu1 C.hu) ho ha hb ⟨a1n hpb,by rw[t];rfl,cX,t⟩) ?_;rintro σ H Q ⟨env,ah,m,rl,q⟩;refine⟨env,ah,m,rl,i9.first rl q λd1 bN m1 H1 v1 p1 k1 bP r1 q1=>?_⟩;split at q1
 · rename_i hd;unfold b1T at hd;split at hd
   · rename_i n;split at hd
     · rename_i kvs0 e0;obtain⟨ad,rfl,hm⟩:=r1;refine⟨ad,rfl,?_,env,bN,m1,bP,i9.first bP q1 λd2 cq m2 H2 v2 p2 k2 cH r2 q2=>⟨env,cq,m2,cH,i9.first cH q2 λd3 eT m3 H3 v3 p3 k3 eF r3 q3=>?_⟩⟩
       · rcases bP.sim.at hm e0 with⟨bF,h1,_⟩|⟨bF,h1,_⟩
         · exact .inl ⟨bF,.inl h1⟩
         · exact .inr ⟨bF,.inl h1⟩
       · unfold a6U at q3;simp only at q3;split at q3
         · rename_i bF e3;obtain⟨hk,q3⟩:=ifq q3;rw[ae] at hk;obtain⟨hk1,hk2⟩:=hk;obtain⟨k,hk⟩:=Option.isSome_iff_exists.mp hk2;have hm3:=p3.get (p2.get hm);rcases eF.sim.at hm3 e3 with⟨gs,h1,h2⟩|⟨gs,h1,h2⟩
           · obtain⟨o,g,o1,o2⟩:=a1L (Keep.refl m3 H3) (r2.mono p3 k3) (.inl ⟨k,gs,hk,h1,h2⟩);refine⟨H3,λ_ _ _ z=>z,o,g,?_⟩;cases hg:o0 bF d2 with
             |none=>
              rw[hg] at o1 q3;cases o with
              |none=>exact q3.ok eF.sim r3
              |some w=>cases o1
             |some w=>
              rw[hg] at q3;obtain⟨v,rfl,rv⟩:=o2 w hg;exact q3.ok eF.sim rv
           · have e0:=isEmpty_iff.mp (c0N h2 hk1 hk2);subst e0;cases h2;have kp:Keep m3 m3 H3 (upd H3 ad (.dK [])):=Keep.put hm3 h1 λz=>z;have S':=eF.sim.write (o':=.dK []) (c:=.dict []) hm3 h1 (λz=>z) (.inl ⟨[],i8,.nil⟩);rw[show eT.set n (.dict [])=eT from a3n e3] at S';refine⟨upd H3 ad (.dK []),λ_ _ _ I=>b0O I h1,none,.inl ⟨[],k,.inl i8,W7 hk (r2.mono p3 k3),rfl⟩,?_⟩;exact q3 m3 _ _ (Pre.refl m3) kp S' (r3.mono (Pre.refl m3) kp)
         · exact q3.elim
     · cases hd
   · cases hd
 · exact q1.elim
end
noncomputable def TGv(Γ:Gm)(p:Pat):TG:=λv σ H Q=>∃env d m bI,EnvRel m H env σ/\Rp m H d v/\F7 p d env=some bI/\∀bS,EnvRel m H bI bS->↥bS=↥σ->(∀(j:Nat),j∉L4 p->bS[j]? =σ[j]?)->Q bS H
noncomputable def c2E(Γ:Gm)(p:Pats):TGs:=λvs σ H Q=>∃env ds m bI,EnvRel m H env σ/\Rps m H ds vs/\N4 p ds env=some bI/\∀bS,EnvRel m H bI bS->↥bS=↥σ->(∀(j:Nat),j∉a0z p->bS[j]? =σ[j]?)->Q bS H
noncomputable def a2Q:Pats->Nat
 |.nil=>0
 |.cons _ r=>a2Q r+1
theorem a1m:∀(ps:Pats) {ds:List D} {env bI:u9},N4 ps ds env=some bI->↥ds=a2Q ps
 |.nil,ds,env,bI,h=>by
  cases ds with
  |nil=>rfl
  |cons d r=>simp only[N4] at h;cases h
 | .cons p r,ds,env,bI,h=>by
  cases ds with
  |nil=>simp only[N4] at h;cases h
  |cons d t=>
   simp only[N4] at h;split at h
   · rw[length_cons,a1m r h];rfl
   · cases h
variable{es:List Expr}{n:Nat}{cc:Cell}{ah:AH}{K:PySem.W.Frag}{l:List D}{m0:List Addr}{H0:Hp}{vs:List V}{z:Str}{n':Nat}{a':Addr}{l':List D}{cc':Cell}{dQ:List Expr}{kk:Nat}{tp:Pos}
section
variable{X:Cx}{Γ:Gm}{G:GT}{ct:CT}{c:CF}{Ex:XK}{N:List Str}{sc:Scope}{bV:Bool}
theorem PG.imp{e:Expr}{t t':TG}(h:PG X e t)(i:∀v σ H Q,t' v σ H Q->t v σ H Q):PG X e t':=λbE s σ H v u Q I r q=>h bE s σ H v u Q I r (i _ _ _ _ q)
theorem PGs.imp{t t':TGs}(h:PGs X es t)(i:∀v σ H Q,t' v σ H Q->t v σ H Q):PGs X es t':=λbE s σ H v u Q I r q=>h bE s σ H v u Q I r (i _ _ _ _ q)
theorem a3W{env:Env}:∀{es:List Expr},↥(assignEach es env)=↥es
 |[]=>rfl
 |e::r=>by have:=a3W (env:=env) (es:=r);cases e<;>simp only[assignEach,length_cons]<;>rw[this]
theorem Cxt.loc(C:Cxt X Γ G ct c Ex N sc bV){n:Str}(h:b1S bV sc n=true):Loc X.env.scope n/\(X.fn n=true∨X.env.scope.names.lookup n=some .local):=by
 rw[C.sc];unfold b1S at h;unfold L2.Loc;split at h
 · rename_i e;exact⟨.inl e,.inr e⟩
 · rename_i e;exact⟨.inr e,.inl (C.fnb h n)⟩
 · cases h
theorem a3k(C:Cxt X Γ G ct c Ex N sc bV){n:Str}{i:Nat}(h:a3l bV N sc n=some i):X.N[i]? =some n/\Loc X.env.scope n/\(X.fn n=true∨X.env.scope.names.lookup n=some .local):=by unfold a3l at h;obtain⟨hl,h⟩:=ifs h;rw[C.hN];exact⟨a5x h,C.loc hl⟩
theorem b3n (C:Cxt X Γ G ct c Ex N sc bV):∀n,(∀e p,a8b bV N sc n e=some p->PG X e (TGv Γ p)/\v7 e=true)/\∀es ps,a3S bV N sc n es=some ps->PGs X es (c2E Γ ps)/\a2Q ps=↥es/\(assignEach es X.env).findIdx? (·.1)=none:=by
 intro n
 induction n with
 |zero=>exact⟨λe p h=>(by simp only[a8b] at h;cases h),λes ps h=>(by simp only[a3S] at h;cases h)⟩
 | succ n ih=>
  obtain⟨ih1,ih2⟩:=ih;refine⟨λe p h=>?_,λes ps h=>?_⟩
  · cases e<;>simp only[a8b] at h<;>first|(cases h;done)|skip
    · rename_i nm pos;cases hs:a3l bV N sc nm with
      |none=>rw[hs] at h;cases h
      |some i=>
       rw[hs] at h;cases h;obtain⟨h1,h2,h3⟩:=a3k C hs;refine⟨PG.imp (b4o (by rw[C.hN];exact C.nd) h1 h2 h3) ?_,rfl⟩;rintro v σ H Q ⟨env,d,m,bI,er,r,hb,q⟩;simp only[F7] at hb;cases hb;exact q _ (er.set r) ⋯ λj hj=>List.getElem?_set_ne (λe=>hj (by simp[L4,e]))
    · rename_i es k pos;cases hs:a3S bV N sc n es with
      |none=>rw[hs] at h;cases h
      |some ps=>
       rw[hs] at h;cases h;obtain⟨h1,h2,h3⟩:=ih2 es ps hs;refine⟨PG.imp (b6X C.calm h1 a3W h3) ?_,rfl⟩;rintro v σ H Q ⟨env,d,m,bI,er,r,hb,q⟩;simp only[F7] at hb;cases d<;>first|(cases hb;done)|skip
       rename_i ds;obtain⟨a,vs,rfl,ha,rs⟩:=r;refine⟨a,vs,rfl,.inl (.inl ha),by rw[rs.len,a1m ps hb,h2],env,ds,m,bI,er,rs,hb,λbS r' l' s'=>q bS r' l' s'⟩
  · cases es with
    | nil=>
     simp only[a3S] at h;cases h;refine⟨PGs.imp b4n ?_,rfl,rfl⟩;rintro vs σ H Q ⟨env,ds,m,bI,er,rs,hb,q⟩;have hl:=a1m .nil hb;have:vs=[]:=length_eq_zero_iff.mp (rs.len.trans hl);subst this;cases ds with
     |nil=>
      simp only[N4] at hb;cases hb;exact⟨rfl,q σ er rfl λ_ _=>rfl⟩
     |cons d r=>cases hl
    |cons e r=>
     simp only[a3S] at h;split at h
     · rename_i p ps' h1 h2;cases h;obtain⟨g1,g2⟩:=ih1 e p h1;obtain⟨g3,g4,g5⟩:=ih2 r ps' h2;have dN:(assignEach (e::r) X.env)=(false,assign e X.env)::assignEach r X.env:=by cases e<;>first|rfl|cases g2
       refine⟨PGs.imp (b1g g1 g3 (by rw[dN];rfl)) ?_,by simp only[a2Q,length_cons,g4],by rw[dN,List.findIdx?_cons,g5];rfl⟩;rintro vs σ H Q ⟨env,ds,m,bI,er,rs,hb,q⟩;cases ds with
       |nil=>simp only[N4] at hb;cases hb
       |cons d t=>
        simp only[N4] at hb;split at hb
        · rename_i bY hb1;obtain⟨v,vt,rfl,rd,rt⟩:=rs;refine⟨v,vt,rfl,env,d,m,bY,er,rd,hb1,λσ1 er1 l1 s1=>⟨bY,t,m,bI,er1,rt,hb,λbS er' l' s'=>q bS er' (l'.trans l1) λj hj=>?_⟩⟩;simp only[a0z,aN,not_or] at hj;rw[s' j hj.2,s1 j hj.1]
        · cases hb
     · cases h
def a7j(Γ:Gm)(J:It)(bG:List D)(g:List (Nat×Cell))(m0:List Addr)(H0:Hp):Prop:=∀(i:Nat) (ah:AH) (m:List Addr) (H:Hp),Pre m0 m->Keep m0 m H0 H->Sim Γ ah m H->gOk g ah=true→
 (i=↥bG->J.stop i H)/\∀d,bG[i]? =some d->J.go i H/\∀v H',J.yld i H v H'->Keep m m H H'/\Sim Γ ah m H'/\Rp m H' d v
def TIv(Γ:Gm)(E:XK)(f:u9->AH->R Its):TI:=λσ H R=>∃env ah m,Rel Γ env ah σ H m/\k8 Γ E m H (f env ah) (λx bN m1 H1=>Sim Γ bN m1 H1->∀J,a7j Γ J x.1 x.2 m1 H1->R J H1)
theorem b5e(h:gOk [(n,cc)] ah=true):ah[n]? =some cc:=by unfold gOk at h;rw[all_cons,ae] at h;exact ax h.1
theorem F9(hK:K=Γ.K){a:Addr}(h:cc=.lst l∨cc=.rol l)(S:Sim Γ ah m H)(hm:m[n]? =some a)(e:ah[n]? =some cc):∃vs,SqL K H a vs/\Rps m H l vs:=by
 have:rdL ah n=some l:=by unfold rdL;rcases h with rfl|rfl<;>rw[e]
 obtain⟨a',vs,e1,e2,e3,e4⟩:=S.rdL this ⟨a,rfl,hm⟩;rw[hm] at e2;cases e2;exact⟨vs,by rw[hK];exact e3,e4⟩
theorem a8H(hK:K=Γ.K){a:Addr}(h:cc=.lst l∨cc=.rol l)(hm:m0[n]? =some a):a7j Γ (Itl K a) l [(n,cc)] m0 H0:=by intro i ah m H p k0 S g;obtain⟨vs,h1,h2⟩:=F9 hK h S (p.get hm) (b5e g);refine⟨λhi=>⟨vs,h1,by rw[h2.len,hi];exact aj _⟩,λd hd=>?_⟩;obtain⟨v,hv,rv⟩:=h2.get hd;refine⟨⟨vs,v,h1,hv⟩,?_⟩;rintro w H' ⟨rfl,hw⟩;have:=hw vs h1;rw[hv] at this;cases this;exact⟨Keep.refl _ _,S,rv⟩
theorem a4E:∀{l:List D} {n i:Nat} {d:D},(u5 n l)[i]? =some d->∃x,l[i]? =some x/\d=.tup [.int ((n+i:Nat):Int),x]
 |[],_,_,_,h=>by simp[u5] at h
 |x::r,n,0,d,h=>by simp only[u5,List.getElem?_cons_zero] at h;cases h;exact⟨x,rfl,rfl⟩
 |x::r,n,i+1,d,h=>by simp only[u5,List.getElem?_cons_succ] at h;obtain⟨y,h1,h2⟩:=a4E h;exact⟨y,by simpa using h1,by rw[h2];congr 3;ac_nf⟩
theorem a4D:∀{l:List D} {n:Nat},↥(u5 n l)=↥l
 |[],_=>rfl
 |x::r,n=>by simp only[u5,length_cons,a4D]
theorem a8I(hK:K=Γ.K){a:Addr}(h:cc=.lst l∨cc=.rol l)(hm:m0[n]? =some a):a7j Γ (Ite K a) (u5 0 l) [(n,cc)] m0 H0:=by intro i ah m H p k0 S g;obtain⟨vs,h1,h2⟩:=F9 hK h S (p.get hm) (b5e g);refine⟨λhi=>⟨vs,h1,by rw[h2.len,hi,a4D];exact aj _⟩,λd hd=>?_⟩;obtain⟨x,hx,rfl⟩:=a4E hd;obtain⟨v,hv,rv⟩:=h2.get hx;refine⟨⟨vs,v,h1,hv⟩,?_⟩;rintro w H' ⟨T,y,hT,rfl,hw,rfl⟩;have:=hw vs h1;rw[hv] at this;cases this;refine⟨Keep.new hT,S.new hT,T,[.int i,v],rfl,i8,.int i,[v],rfl,?_,v,[],rfl,rv.mono (Pre.refl m) (Keep.new hT),rfl⟩;show V.int (i:Int)=V.int ((0+i:Nat):Int);rw[aC]
theorem b7G{a:Addr}(ha:H0 a=some (.tup vs))(r:Rps m0 H0 l vs):a7j Γ (Itt K a) l [] m0 H0:=by intro i ah m H p k0 S g;have h1:=k0.tup ha;have h2:=r.mono p k0;refine⟨λhi=>⟨vs,.inl (.inl h1),by rw[h2.len,hi];exact aj _⟩,λd hd=>?_⟩;obtain⟨v,hv,rv⟩:=h2.get hd;refine⟨⟨vs,v,.inl (.inl h1),hv⟩,?_⟩;rintro w H' ⟨rfl,hw⟩;have:=hw vs (.inl (.inl h1));rw[hv] at this;cases this;exact⟨Keep.refl _ _,S,rv⟩
theorem b7H:a7j Γ (L2.Its z) (X5 z) [] m0 H0:=by
 intro i ah m H p k0 S g;refine⟨λhi=>?_,λd hd=>?_⟩
 · show i=z.cps.size;rw[hi];simp[X5]
 · unfold X5 at hd;rw[ak] at hd;cases hc:z.cps.toList[i]? with
   |none=>rw[hc] at hd;cases hd
   | some cc=>
    rw[hc] at hd;cases hd;have hi:i<z.cps.size:=by
     have:=(ac.mp hc).1
     simpa using this
    refine⟨hi,?_⟩;rintro v H' ⟨rfl,c',h1,rfl⟩;rw[Array.getElem?_toList] at hc;rw[hc] at h1;cases h1;exact⟨Keep.refl _ _,S,rfl⟩
theorem b7I{lo:Int}:a7j Γ (Itr lo n) (b0N lo n) [] m0 H0:=by
 intro i ah m H p k0 S g;refine⟨λhi=>?_,λd hd=>?_⟩
 · show n<=i;rw[hi];simp[b0N]
 · unfold b0N at hd;rw[ak] at hd;cases hc:(List.range n)[i]? with
   |none=>rw[hc] at hd;cases hd
   |some j=>
    rw[hc] at hd;cases hd;obtain⟨h1,h2⟩:=ac.mp hc;rw[List.getElem_range] at h2;rw[aL] at h1;subst h2;refine⟨h1,?_⟩;rintro v H' ⟨rfl,rfl⟩;exact⟨Keep.refl _ _,S,rfl⟩
variable{tg a b:Expr}{x y:E}{pos p:Pos}
theorem c1m(C:Cxt X Γ G ct c Ex N sc bV)(ha:PE X a (TEv Γ Ex (ev ct c x))):PI X tg a (TIv Γ Ex (evi ct c (.seq x))):=by
 intro bE s σ H R I ⟨env,ah,m,rl,q⟩;rw[a2V] at q;cases hr:ev ct c x env ah with
 | ok d bN=>
  rw[hr,d9] at q;unfold M3 at q;split at q
  · refine b6W ha bE s σ H R I ⟨env,ah,m,rl,?_⟩;rw[hr];intro m1 H1 v p1 k1 s1 r1;cases r1;exact⟨_,rfl,(q m1 H1 p1 k1 s1) s1 _ b7H⟩
  · refine b6V ha bE s σ H R I ⟨env,ah,m,rl,?_⟩;rw[hr];intro m1 H1 v p1 k1 s1 r1;obtain⟨ad,vs,rfl,h1,q1⟩:=r1;exact⟨ad,rfl,⟨vs,.inl (.inl h1)⟩,(q m1 H1 p1 k1 s1) s1 _ (b7G h1 q1)⟩
  · rename_i n;refine b4l ha bE s σ H R I ⟨env,ah,m,rl,?_⟩;rw[hr];intro m1 H1 v p1 k1 s1 r1;split at q
    · rename_i l e;obtain⟨ad,vs,rfl,hm,h1,q1⟩:=s1.lst e r1;exact⟨ad,rfl,⟨vs,.inl (.inl h1)⟩,(q m1 H1 p1 k1 s1) s1 _ (a8H C.K (.inl rfl) hm)⟩
    · rename_i l e;obtain⟨ad,vs,rfl,hm,h1,q1⟩:=s1.rdL (l:=l) (by unfold rdL;rw[e]) r1;exact⟨ad,rfl,⟨vs,by rw[C.K];exact h1⟩,(q m1 H1 p1 k1 s1) s1 _ (a8H C.K (.inr rfl) hm)⟩
    · exact q.elim
  · exact q.elim
 |no=>rw[hr] at q;exact q.elim
theorem b8C(C:Cxt X Γ G ct c Ex N sc bV)(hg:Q3 sc "range"=true)(hm:X.mg "range"=none)(hp:v7 a=true)(ha:PE X a (TEv Γ Ex (ev ct c x))):PI X tg (.Call (.Name "range" p) [a] [] pos) (TIv Γ Ex (evi ct c (.rng1 x))):=by
 intro bE s σ H R I ⟨env,ah,m,rl,q⟩;refine a9B (C.gl hg) hm (Q9 ha a1Y (n5 hp)) (n5 hp) bE s σ H R I ⟨env,ah,m,rl,?_⟩;refine k8.first rl q λd1 bN m1 H1 v1 p1 k1 bP r1 q1=>?_;unfold b0M at q1;split at q1
 · rename_i i j e1;cases e1;cases r1;split at q1
   · rename_i hh;refine⟨j,rfl,(a0x hh.2).1,(a0x hh.2).2,?_⟩;have:=q1.ok bP.sim bP.sim (Itr 0 (j-0).toNat) b7I
     rwa [Int.sub_zero] at this
   · exact q1.elim
 · exact q1.elim
theorem c2i{g:Nat×Cell}{g':List (Nat×Cell)}(h:gOk (g::g') ah=true):ah[g.1]? =some g.2/\gOk g' ah=true:=by unfold gOk at h⊢;rw[all_cons,ae] at h;exact⟨ax h.1,h.2⟩
theorem Z7{a:List D×Cell}(h:Z8 ah n=some a):ah[n]? =some a.2/\(a.2=.lst a.1∨a.2=.rol a.1):=by
 unfold Z8 at h;split at h
 · rename_i l e;cases h;exact⟨e,.inl rfl⟩
 · rename_i l e;cases h;exact⟨e,.inr rfl⟩
 · cases h
theorem a3b:∀{l l':List D} {i:Nat} {d:D},(Q8 l l')[i]? =some d->∃x y,l[i]? =some x/\l'[i]? =some y/\d=.tup [x,y]
 |[],l',i,d,h=>by simp[Q8] at h
 |x::xs,[],i,d,h=>by simp[Q8] at h
 |x::xs,y::ys,0,d,h=>by simp only[Q8,List.getElem?_cons_zero] at h;cases h;exact⟨x,y,rfl,rfl,rfl⟩
 |x::xs,y::ys,i+1,d,h=>by simp only[Q8,List.getElem?_cons_succ] at h;obtain⟨a,b,h1,h2,h3⟩:=a3b h;exact⟨a,b,by simpa using h1,by simpa using h2,h3⟩
theorem a3a:∀{l l':List D},↥l<=↥(Q8 l l')∨↥l'<=↥(Q8 l l')
 |[],l'=>.inl (Nat.zero_le _)
 |x::xs,[]=>.inr (Nat.zero_le _)
 |x::xs,y::ys=>by
  simp only[Q8,length_cons];rcases a3a (l:=xs) (l':=ys) with h|h
  · exact .inl (Nat.succ_le_succ h)
  · exact .inr (Nat.succ_le_succ h)
theorem b1N(hK:K=Γ.K){a:Addr}(h:cc=.lst l∨cc=.rol l)(h':cc'=.lst l'∨cc'=.rol l')(hm:m0[n]? =some a)(hm':m0[n']? =some a'):
 a7j Γ (Itz K a a') (Q8 l l') [(n,cc),(n',cc')] m0 H0:=by
 intro i ah m H p k0 S g;obtain⟨g1,g2⟩:=c2i g;obtain⟨vs,h1,h2⟩:=F9 hK h S (p.get hm) g1;obtain⟨ws,h3,h4⟩:=F9 hK h' S (p.get hm') (b5e g2);refine⟨λhi=>⟨vs,ws,h1,h3,?_⟩,λd hd=>?_⟩
 · rw[h2.len,h4.len,hi];exact a3a
 · obtain⟨x,y,hx,hy,rfl⟩:=a3b hd;obtain⟨v,hv,rv⟩:=h2.get hx;obtain⟨u,hu,ru⟩:=h4.get hy;refine⟨⟨vs,ws,v,u,h1,h3,hv,hu⟩,?_⟩;rintro w H' ⟨T,z,z',hT,rfl,hw,hw',rfl⟩;have e1:=hw vs h1;have e2:=hw' ws h3;rw[hv] at e1;rw[hu] at e2;cases e1;cases e2;exact⟨Keep.new hT,S.new hT,T,[v,u],rfl,i8,v,[u],rfl,rv.mono (Pre.refl m) (Keep.new hT),u,[],rfl,ru.mono (Pre.refl m) (Keep.new hT),rfl⟩
theorem b4P(hK:K=Γ.K){a:Addr}(ha:H0 a=some (.tup vs))(r:Rps m0 H0 l vs)(h':cc'=.lst l'∨cc'=.rol l')(hm':m0[n']? =some a'):a7j Γ (b8R K a a') (Q8 l l') [(n',cc')] m0 H0:=by
 intro i ah m H p k0 S g;have h1:SqT K H a vs:=.inl (.inl (k0.tup ha));obtain⟨ws,h3,h4⟩:=F9 hK h' S (p.get hm') (b5e g);have h2:=r.mono p k0;refine⟨λhi=>⟨vs,ws,h1,h3,?_⟩,λd hd=>?_⟩
 · rw[h2.len,h4.len,hi];exact a3a
 · obtain⟨x,y,hx,hy,rfl⟩:=a3b hd;obtain⟨v,hv,rv⟩:=h2.get hx;obtain⟨u,hu,ru⟩:=h4.get hy;refine⟨⟨vs,ws,v,u,h1,h3,hv,hu⟩,?_⟩;rintro w H' ⟨T,z,z',hT,rfl,hw,hw',rfl⟩;have e1:=hw vs h1;have e2:=hw' ws h3;rw[hv] at e1;rw[hu] at e2;cases e1;cases e2;exact⟨Keep.new hT,S.new hT,T,[v,u],rfl,i8,v,[u],rfl,rv.mono (Pre.refl m) (Keep.new hT),u,[],rfl,ru.mono (Pre.refl m) (Keep.new hT),rfl⟩
theorem c1j(C:Cxt X Γ G ct c Ex N sc bV)(hg:Q3 sc "zip"=true)(hm:X.mg "zip"=none)(hp:v7 a=true)(hpb:v7 b=true)(ha:PE X a (TEv Γ Ex (ev ct c x)))(hb:PE X b (TEv Γ Ex (ev ct c y))):PI X (.Tuple dQ kk tp) (.Call (.Name "zip" p) [a,b] [] pos) (TIv Γ Ex (evi ct c (.zip x y))):=by
 intro bE s σ H R I ⟨env,ah,m,rl,q⟩;refine b4k (C.gl hg) hm (Q9 ha (Q9 hb a1Y (n5 hpb)) (n5 hp)) (n5 hp) (R8 (by simp[hpb])) bE s σ H R I ⟨env,ah,m,rl,?_⟩;refine k8.first rl q λd1 bN m1 H1 v1 p1 k1 bP r1 q1=>?_;refine⟨env,bN,m1,bP,k8.first bP q1 λd2 cq m2 H2 v2 p2 k2 cH r2 q2=>?_⟩;unfold a9g at q2;split at q2
 · split at q2
   · split at q2
     · rename_i e2;obtain⟨c2,w2⟩:=Z7 e2;obtain⟨ad,vs,rfl,h1,g1⟩:=r1.mono p2 k2;obtain⟨ad',rfl,dW⟩:=r2;obtain⟨ws,h2,_⟩:=F9 C.K w2 cH.sim dW c2;exact⟨ad,ad',vs,ws,rfl,.inr ⟨.inl (.inl h1),h2,q2.ok cH.sim cH.sim _ (b4P C.K h1 g1 w2 dW)⟩⟩
     · exact q2.elim
   · exact q2.elim
 · unfold a5T at q2;split at q2
   · split at q2
     · rename_i e1 e2;obtain⟨c1,w1⟩:=Z7 e1;obtain⟨c2,w2⟩:=Z7 e2;obtain⟨ad,rfl,hm1⟩:=r1.mono p2 k2;obtain⟨ad',rfl,dW⟩:=r2;obtain⟨vs,h1,_⟩:=F9 C.K w1 cH.sim hm1 c1;obtain⟨ws,h2,_⟩:=F9 C.K w2 cH.sim dW c2;exact⟨ad,ad',vs,ws,rfl,.inl ⟨h1,h2,q2.ok cH.sim cH.sim _ (b1N C.K w1 w2 hm1 dW)⟩⟩
     · exact q2.elim
   · exact q2.elim
theorem b8B{nm:Str}(C:Cxt X Γ G ct c Ex N sc bV)(hg:Q3 sc "zip"=true)(hm:X.mg "zip"=none)(hp:v7 a=true)(hpb:v7 b=true)(ha:PE X a (TEv Γ Ex (ev ct c x)))(hb:PE X b (TEv Γ Ex (ev ct c y))):PI X (.Name nm tp) (.Call (.Name "zip" p) [a,b] [] pos) (TIv Γ Ex (evi ct c (.zipn x y))):=by
 intro bE s σ H R I ⟨env,ah,m,rl,q⟩;refine b4j (C.gl hg) hm (Q9 ha (Q9 hb a1Y (n5 hpb)) (n5 hp)) (n5 hp) (R8 (by simp[hpb])) bE s σ H R I ⟨env,ah,m,rl,?_⟩;refine k8.first rl q λd1 bN m1 H1 v1 p1 k1 bP r1 q1=>?_;refine⟨env,bN,m1,bP,k8.first bP q1 λd2 cq m2 H2 v2 p2 k2 cH r2 q2=>?_⟩;unfold a5T at q2;split at q2
 · split at q2
   · rename_i e1 e2;obtain⟨c1,w1⟩:=Z7 e1;obtain⟨c2,w2⟩:=Z7 e2;obtain⟨ad,rfl,hm1⟩:=r1.mono p2 k2;obtain⟨ad',rfl,dW⟩:=r2;obtain⟨vs,h1,_⟩:=F9 C.K w1 cH.sim hm1 c1;obtain⟨ws,h2,_⟩:=F9 C.K w2 cH.sim dW c2;exact⟨ad,ad',vs,ws,rfl,h1,h2,q2.ok cH.sim cH.sim _ (b1N C.K w1 w2 hm1 dW)⟩
   · exact q2.elim
 · exact q2.elim
theorem b8G(C:Cxt X Γ G ct c Ex N sc bV)(hg:Q3 sc "enumerate"=true)(hm:X.mg "enumerate"=none)(hp:v7 a=true)(ha:PE X a (TEv Γ Ex (ev ct c x))):PI X (.Tuple dQ kk tp) (.Call (.Name "enumerate" p) [a] [] pos) (TIv Γ Ex (evi ct c (.enum x))):=by
 intro bE s σ H R I ⟨env,ah,m,rl,q⟩;refine b4m (C.gl hg) hm (Q9 ha a1Y (n5 hp)) (n5 hp) bE s σ H R I ⟨env,ah,m,rl,?_⟩;refine k8.first rl q λd1 bN m1 H1 v1 p1 k1 bP r1 q1=>?_;unfold T8 at q1;split at q1
 · split at q1
   · rename_i l e;obtain⟨ad,vs,rfl,hm,h1,_⟩:=bP.sim.lst e r1;exact⟨ad,vs,rfl,.inl (.inl h1),q1.ok bP.sim bP.sim _ (a8I C.K (.inl rfl) hm)⟩
   · rename_i l e;obtain⟨ad,vs,rfl,hm,h1,_⟩:=bP.sim.rdL (l:=l) (by unfold rdL;rw[e]) r1;exact⟨ad,vs,rfl,by rw[C.K];exact h1,q1.ok bP.sim bP.sim _ (a8I C.K (.inr rfl) hm)⟩
   · exact q1.elim
 · exact q1.elim
end
variable{env:u9}{σ:St}{own:List Str}{p:Pat}{α:Type}{Q:VK}{it:I}{e:E}{cN:Expr}{iter:Expr}{tg:Expr}{scope:Scope}{pos:Pos}{frees:List Str}{op:CmpOp}{β:Type}
section
variable{X:Cx}{Γ:Gm}{G:GT}{ct:CT}{c:CF}{Ex:XK}{N:List Str}{sc:Scope}{bV:Bool}
theorem a6R(h:EnvRel m H env σ)(own:List Str)(js:List Nat):EnvRel m H (F0 ↥own js env) (E9 own js σ):=by
 refine⟨by simp[F0,E9],λi d e=>?_⟩;unfold F0 at e;unfold E9
 by_cases hi:i<↥own
 · rw[aw (by simpa using hi),bD,az hi] at e;cases e
 · have hi':↥own<=i:=aW hi;rw[av (by simpa using hi'),bn,ak] at e;rw[av (by simpa using hi'),aa,ak];cases hj:js[i-↥own]? with
   |none=>rw[hj] at e;cases e
   | some j=>
    rw[hj] at e;have e':(env[j]?).join=some d:=ay e;have e2:env[j]? =some (some d):=by
     cases q:env[j]? with
     |none=>rw[q] at e';cases e'
     |some z=>rw[q] at e';exact congrArg some e'
    obtain⟨v,h1,h2⟩:=h.val j d e2;exact⟨v,by rw[Option.map_some,h1];rfl,h2⟩
theorem b3s{js:List Nat}{σ4:St}(hp:(L4 p).all (λi=>decide (i<↥own))=true)(hl:↥σ4=↥(E9 own js σ))(hs:∀(j:Nat),j∉L4 p->σ4[j]? =(E9 own js σ)[j]?):Wk (E9 own js σ) σ4:=by
 refine⟨hl.symm,λi v h=>?_⟩;rw[hs i]
 · exact h
 · intro hm;have:=ax (bp.mp hp i hm);unfold E9 at h;rw[aw (by simpa using this),ak] at h;cases q:own[i]? with
   |none=>rw[q] at h;cases h
   |some z=>rw[q] at h;cases h
theorem a8y{r:R α}{f:α->AH->R D}(h:i9 Γ Ex m H (r.bind f) Q):∃a ah,r=.ok a ah/\i9 Γ Ex m H (f a ah) Q:=by
 cases r with
 |ok a ah=>exact⟨a,ah,rfl,h⟩
 |no=>exact h.elim
theorem a6Y {js:List Nat} {t:T} (hp:(L4 p).all (λi=>decide (i<↥own))=true):∀σ H Q,TEv Γ Ex (ev ct c (.comp p it ↥own js t e)) σ H Q->a8h own js (TIv Γ Ex (evi ct c it)) (TGv Γ p) (TTv Γ E0 (tst ct c t)) (TEv Γ E0 (ev ct c e)) σ H Q:=by
 rintro σ H Q ⟨env,ah,m,rl,q⟩;refine⟨env,ah,m,rl,q.bind.mp λx bN m1 H1 p1 k1 s1 q1=>λ_ J hJ D hD=>?_⟩;have er1:=rl.env.mono p1 k1;refine⟨λi mm ys H2=>mm=↥x.1-i/\i<=↥x.1/\∃bR cq m2,Sim Γ cq m2 H2/\Pre m1 m2/\Keep m1 m2 H1 H2/\D∉m2/\H2 D=some (.lst ys)/\Rps m2 H2 bR ys∧
  i9 Γ Ex m1 H1 ((Q0 x.2 p (tst ct c t) (ev ct c e) (F0 ↥own js env) (x.1.drop i) bR cq).bind λds h2=>v8 (.lst ds) h2) Q,?_,?_⟩
 · exact⟨_,rfl,Nat.zero_le _,[],bN,m1,s1.new hD,Pre.refl _,Keep.new hD,s1.fresh hD,i8,rfl,q1⟩
 · rintro i mm ys H2 ⟨hmm,hil,bR,cq,m2,s2,p2,k2,nD,hD2,rs2,q2⟩
   by_cases dl:i=↥x.1
   · refine .inl ?_;rw[dl,drop_length] at q2;obtain⟨ds,eT,e3,q3⟩:=a8y q2;unfold Q0 at e3;split at e3
     · rename_i hgk;cases e3;refine⟨(hJ i cq m2 H2 p2 k2 s2 hgk).1 dl,?_⟩;have sm:Sim Γ (cq++[.lst bR]) (m2++[D]) H2:=by
        refine⟨by simp[s2.len],a0X s2.nd nD,λn a cc hn dD=>?_⟩;have kk:Keep m2 m2 H2 H2:=Keep.refl _ _
        by_cases hl:n<↥m2
        · rw[aw hl] at hn;rw[aw (by rw[←s2.len];exact hl)] at dD;exact(s2.at hn dD).mono' (Pre.snoc m2 D) (λ_ _ _ z=>z) rfl
        · have hn':n=↥m2:=by have:=(ac.mp hn).1;simp at this;ac_nf
          subst hn';rw[av (aj _)] at hn;rw[s2.len,av (aj _)] at dD;simp at hn dD;subst hn;subst dD;exact⟨ys,hD2,rs2.mono' (Pre.snoc m2 D) λ_ _ _ z=>z⟩
       refine q3 (m2++[D]) H2 (.ref D) (p2.trans (Pre.snoc m2 D)) ⟨k2.im,k2.out,λa ha=>?_⟩ sm ⟨D,rfl,?_⟩
       · rcases aN.mp ha with z|z
         · exact k2.fr a z
         · simp at z;subst z;exact .inr hD
       · rw[←s2.len,av (aj _)];simp
     · cases e3
   · refine .inr ?_;have hlt:i<↥x.1:=Nat.lt_of_le_of_ne hil dl;have hdi:x.1[i]? =some x.1[i]:=ai hlt;rw[drop_eq_getElem_cons hlt] at q2;generalize hdd:x.1[i]=dd at q2 hdi;obtain⟨ds,eT,e3,q3⟩:=a8y q2;unfold Q0 at e3;split at e3
     · rename_i hgk;obtain⟨go,yl⟩:=(hJ i cq m2 H2 p2 k2 s2 hgk).2 dd hdi;refine⟨go,λv H3 hy=>?_⟩;obtain⟨k3,s3,r3⟩:=yl v H3 hy;split at e3
       · cases e3
       · rename_i envb hb;have er3:EnvRel m2 H3 (F0 ↥own js env) (E9 own js σ):=a6R ((er1.mono p2 k2).mono (Pre.refl m2) k3) own js;refine⟨_,dd,m2,envb,er3,r3,hb,λσ4 er4 l4 s4=>⟨b3s hp l4 s4,envb,cq,m2,⟨s3,er4⟩,?_⟩⟩;have hD3:H3 D=some (.lst ys):=k3.out D _ nD hD2;have ab:∀{m9:List Addr} {H9:Hp},Pre m2 m9->Keep m2 m9 H3 H9->D∉m9/\H9 D=some (.lst ys):=fun{m9 H9} p9 k9=>
          ⟨λz=>(k9.fr D z).elim nD λy=>(by rw[hD3] at y;cases y),k9.out D _ nD hD3⟩
         cases ht:tst ct c t envb cq with
         |no=>rw[ht] at e3;cases e3
         | ok bb ah4=>
          rw[ht,d9] at e3;intro m5 H5 p5 k5 s5;obtain⟨nD5,hD5⟩:=ab p5 k5;have k25:=k3.trans k5;cases bb with
          |false=>
           rw[aA ∅] at e3;refine b7F ⟨↥x.1-(i+1),by ac_nf,rfl,hlt,bR,ah4,m5,s5,p2.trans p5,k2.trans k25,nD5,hD5,rs2.mono p5 k25,?_⟩;rw[e3];exact q3
          | true=>
           rw[az rfl] at e3;refine b7E ⟨envb,ah4,m5,⟨s5,er4.mono p5 k5⟩,?_⟩;cases hv:ev ct c e envb ah4 with
           |no=>rw[hv] at e3;cases e3
           | ok d6 ah6=>
            rw[hv,d9] at e3;split at e3
            · rename_i hz;intro m6 H6 v6 p6 k6 s6 r6;have k36:=k5.trans k6;obtain⟨nD6,hD6⟩:=ab (p5.trans p6) k36;have rs6:=rs2.mono (p5.trans p6) (k25.trans k6);have im6:KIm H6 (upd H6 D (.lst (ys++[v6]))):=λb o io hbo=>by
               have:b≠D:=λz=>by rw[z,hD6] at hbo;cases hbo;exact io
               rw[m8 this];exact hbo
              refine⟨hD6,by rw[rs6.len,←R9];exact hz,↥x.1-(i+1),by ac_nf,rfl,hlt,bR++[d6],ah6,m6,?_,p2.trans (p5.trans p6),?_,nD6,i8,(rs6.snoc r6).mono' (Pre.refl m6) im6,?_⟩
              · refine⟨s6.len,s6.nd,λn a cc hn dD=>(s6.at hn dD).mono' (Pre.refl m6) im6 ?_⟩;exact m8 λz=>nD6 (by rw[←z];exact aI hn)
              · have kall:=k2.trans (k25.trans k6);refine⟨λb o io hb=>im6 b o io (kall.im b o io hb),λb o nb hb=>?_,kall.fr⟩;rw[m8 (y9 hb hD)];exact kall.out b o nb hb
              · rw[e3];exact q3
            · cases e3
     · cases e3
theorem b8L{ifs:List Expr}{js:List Nat}{t:T}(C:Cxt X Γ G ct c Ex N sc bV)(hi:PI X tg iter (TIv Γ Ex (evi ct c it)))(S:CompScope X.env.scope scope own frees)(hj:frees.map some=js.map (X.N[·]?))
 (hg:∀C s₀ H₀ ex,PG (w5 X own frees scope C s₀ H₀ ex) tg (TGv Γ p)) (hc:∀C s₀ H₀ ex,a7h (w5 X own frees scope C s₀ H₀ ex) ifs (TTv Γ E0 (tst ct c t))) (he:∀C s₀ H₀ ex,PE (w5 X own frees scope C s₀ H₀ ex) cN (TEv Γ E0 (ev ct c e)))
 (hs:∀x,foldedSetIterable iter X.env x=pure x) (hp:(L4 p).all (λi=>decide (i<↥own))=true):PE X (.ListComp cN [⟨tg,iter,ifs,0⟩] scope pos) (TEv Γ Ex (ev ct c (.comp p it ↥own js t e))):=by
 exact PE.imp (a6r C.calm hi S hj hg hc he hs) (a6Y hp)
theorem Cxt.comp(C:Cxt X Γ G ct c Ex N sc bV)(S:CompScope sc scope own frees)(D:Addr)(s₀:Shared)(H₀:Hp)(ex:List Addr):Cxt (w5 X own frees scope D s₀ H₀ ex) Γ G ct c E0 (own++frees) (a8u sc scope) false where
 hN:=rfl
 nd:=S.nd
 sc:=by rw[←C.sc];rfl
 calm:=C.calm
 hu:=C.hu
 K:=C.K
 fnb:=λh=>by cases h
 scal:=C.scal
 tups:=C.tups
 dicts:=C.dicts
 blt:=C.blt
 fn:=C.fn
 obj:=C.obj
 att:=C.att
theorem a8L:∀{l:List Str} {js:List Nat},b4T N l=some js->l.map some=js.map (N[·]?)
 |[],js,h=>by cases h;rfl
 |x::r,js,h=>by
  unfold b4T at h;split at h
  · rename_i i is h1 h2;cases h;rw[map_cons,map_cons,a5x h1,a8L h2]
  · cases h
theorem a0E{o:B}(h:a7Y op=some o):o.cmp=some op:=by cases op<;>cases h<;>rfl
theorem b5K{op:Operator}{o:B}(h:c0Y op=some o):o.bin=some op:=by cases op<;>cases h<;>rfl
theorem T3{b:Expr}(h:a1z b=true):behindInMarks op b=false:=by cases b<;>first|rfl|cases h
theorem a0Y{e:Expr}{env:Env}(h:a1z e=true):∀x,foldedSetIterable e env x=pure x:=by intro x;cases e<;>first|rfl|cases h
theorem a3z{b:Expr}(h:a2T b=true):a2Y b:=by intro o i;cases b<;>first|rfl|cases h
def a1T(Γ:Gm)(G:GT)(ct:CT)(c:CF)(n:Nat):Prop:=∀(X:Cx) (Ex:XK) (N:List Str) (sc:Scope) (bV:Bool),Cxt X Γ G ct c Ex N sc bV→
 (∀e x,cE G N sc n e=some x->PE X e (TEv Γ Ex (ev ct c x)))/\(∀es xs,cEs G N sc n es=some xs->PA X es (TAv Γ Ex (evs ct c xs))/\es.all v7=true)∧
 (∀e t,cT G N sc n e=some t->PT X e (TTv Γ Ex (tst ct c t))/\∀op l p,e=.BoolOp op l p->PW X e (TTv Γ Ex (tst ct c t)))/\(∀o x,cO G N sc n o=some x->PO X o (TOv Γ Ex (evo ct c x)))∧
 ∀tg e it,cI G N sc n tg e=some it->PI X tg e (TIv Γ Ex (evi ct c it))
theorem b3j:a1T Γ G ct c 0:=λX Ex N sc bV C=>
 ⟨λe x h=>absurd (show none=some x from h) ⋯,λe x h=>absurd (show none=some x from h) ⋯,λe x h=>absurd (show none=some x from h) ⋯,λe x h=>absurd (show none=some x from h) ⋯,λtg e x h=>absurd (show none=some x from h) ⋯⟩
theorem b3f(ih:a1T Γ G ct c n)(C:Cxt X Γ G ct c Ex N sc bV):∀es xs,cEs G N sc (n+1) es=some xs->PA X es (TAv Γ Ex (evs ct c xs))/\es.all v7=true:=by
 intro es xs h;obtain⟨i1,i2,_⟩:=ih X Ex N sc bV C;replace h:sEs G (cR G n) N sc es=some xs:=h;unfold sEs at h;split at h
 · cases h;exact⟨c1q,rfl⟩
 · obtain⟨hp,h⟩:=ifs h;split at h
   · rename_i x xs' h1 h2;cases h;obtain⟨g1,g2⟩:=i2 _ xs' h2;exact⟨b8K (i1 _ x h1) g1 (n5 hp),by rw[all_cons,hp,g2];rfl⟩
   · cases h
theorem map_some{o:Option α}{f:α->β}{b:β}(h:o.map f=some b):∃a,o=some a/\f a=b:=Option.map_eq_some_iff.mp h
theorem b5G(ih:a1T Γ G ct c n)(C:Cxt X Γ G ct c Ex N sc bV):∀o x,cO G N sc (n+1) o=some x->PO X o (TOv Γ Ex (evo ct c x)):=by
 intro o x h;obtain⟨i1,i2,_⟩:=ih X Ex N sc bV C;replace h:sO G (cR G n) N sc o=some x:=h;unfold sO at h;split at h
 · cases h;exact c2w
 · obtain⟨y,h1,rfl⟩:=map_some h;exact c2v (i1 _ y h1)
theorem b5H(ih:a1T Γ G ct c n)(C:Cxt X Γ G ct c Ex N sc bV):∀tg e it,cI G N sc (n+1) tg e=some it->PI X tg e (TIv Γ Ex (evi ct c it)):=by
 intro tg e it h;obtain⟨i1,i2,_⟩:=ih X Ex N sc bV C;have seq:∀{e:Expr} {it:I},(cE G N sc n e).map I.seq=some it->PI X tg e (TIv Γ Ex (evi ct c it)):=by intro e it h;obtain⟨x,h1,rfl⟩:=map_some h;exact c1m C (i1 _ _ h1)
 replace h:sI G (cR G n) N sc tg e=some it:=h;unfold sI at h;split at h
 · split at h
   · rename_i hc;rw[ae,ae] at hc;obtain⟨⟨hg,hb⟩,hx⟩:=hc;have hx:=ax hx;subst hx;have hm:=C.blt _ hb;split at h
     · obtain⟨hp,h⟩:=ifs h;obtain⟨x,h1,rfl⟩:=map_some h;exact b8C C hg hm hp (i1 _ _ h1)
     · cases h
   · split at h
     · rename_i hc;rw[ae,ae] at hc;obtain⟨⟨hg,hb⟩,hx⟩:=hc;have hx:=ax hx;subst hx;have hm:=C.blt _ hb;split at h
       · obtain⟨hp,h⟩:=ifs h;obtain⟨x,h1,rfl⟩:=map_some h;exact b8G C hg hm hp (i1 _ _ h1)
       · cases h
     · split at h
       · rename_i hc;rw[ae,ae] at hc;obtain⟨⟨hg,hb⟩,hx⟩:=hc;have hx:=ax hx;subst hx;have hm:=C.blt _ hb;split at h
         · obtain⟨hp,h⟩:=ifs h;rw[ae] at hp;split at h
           · rename_i h1 h2;cases h;exact c1j C hg hm hp.1 hp.2 (i1 _ _ h1) (i1 _ _ h2)
           · cases h
         · obtain⟨hp,h⟩:=ifs h;rw[ae] at hp;split at h
           · rename_i h1 h2;cases h;exact b8B C hg hm hp.1 hp.2 (i1 _ _ h1) (i1 _ _ h2)
           · cases h
         · cases h
       · exact seq h
 · exact seq h
theorem c0m{a b:Expr}{x:E}(ih:a1T Γ G ct c n)(C:Cxt X Γ G ct c Ex N sc bV)(h1:cE G N sc n a=some x){k:E->α}{y:α}(h:(match b with
       | .Name y _=>if Q3 sc y then(match op,G.tups.lookup y with
         |.In,some ds=>some (k (.gin false x ds))
         |.NotIn,some ds=>some (k (.gin true x ds))
         |.In,none=>(G.dicts.lookup y).map λbF=>k (.gdin false x bF)
         |.NotIn,none=>(G.dicts.lookup y).map λbF=>k (.gdin true x bF)
         |_,_=>none) else none
       |_=>none)=some y):∃g,y=k g/\PE X (.Compare a [op] [b] pos) (TEv Γ Ex (ev ct c g))/\PT X (.Compare a [op] [b] pos) (TTv Γ Ex (tst ct c (.val g))):=by
 obtain⟨i1,i2,_⟩:=ih X Ex N sc bV C;split at h
 · split at h
   · rename_i hg;split at h
     · rename_i ds hd;cases h;exact⟨_,rfl,b6k C (.inl ⟨rfl,rfl⟩) hg hd (i1 _ _ h1)⟩
     · rename_i ds hd;cases h;exact⟨_,rfl,b6k C (.inr ⟨rfl,rfl⟩) hg hd (i1 _ _ h1)⟩
     · obtain⟨bF,hd,rfl⟩:=map_some h;exact⟨_,rfl,b3o C (.inl ⟨rfl,rfl⟩) hg hd (i1 _ _ h1)⟩
     · obtain⟨bF,hd,rfl⟩:=map_some h;exact⟨_,rfl,b3o C (.inr ⟨rfl,rfl⟩) hg hd (i1 _ _ h1)⟩
     · cases h
   · cases h
 · cases h
theorem a8J{b:Expr}(h:b7J b=true):∃p q,b=.Constant .none p q:=by
 cases b<;>first|(cases h;done)|skip
 rename_i k p q;cases k<;>first|(cases h;done)|exact⟨_,_,rfl⟩
theorem b1s(h:a7y op=some true):op=.Is:=by cases op<;>first|rfl|(cases h;done)
theorem b1t(h:(a7y op).isSome=true)(h':a7y op=some true->False):op=.IsNot:=by cases op<;>first|rfl|(cases h;done)|exact(h' rfl).elim
theorem b3O{b:Expr}{lo hi:Option Expr}(h:b9k b=some (lo,hi)):∃p,b=.Slice lo hi none p:=by
 cases b<;>first|(cases h;done)|skip
 rename_i a c st p;cases st<;>first|(cases h;done)|(cases h;exact⟨_,rfl⟩)
theorem b5F (ih:a1T Γ G ct c n) (C:Cxt X Γ G ct c Ex N sc bV):∀e t,cT G N sc (n+1) e=some t->PT X e (TTv Γ Ex (tst ct c t))/\∀op l p,e=.BoolOp op l p->PW X e (TTv Γ Ex (tst ct c t)):=by
 intro e t h;obtain⟨i1,i2,i3,_⟩:=ih X Ex N sc bV C;replace h:sT G (cR G n) N sc e=some t:=h;have dflt:∀{e:Expr},sTd G (cR G n) N sc e=some t->PT X e (TTv Γ Ex (tst ct c t))/\∀op l p,e=.BoolOp op l p->PW X e (TTv Γ Ex (tst ct c t)):=by
  intro e h;unfold sTd at h;obtain⟨hp,h⟩:=ifs h;obtain⟨y,h1,rfl⟩:=map_some h;refine⟨c1k ?_ (i1 _ y h1),λ_ _ _ z=>?_⟩
  · intro de;cases e<;>first|rfl|(cases hp;done)
  · subst z;cases hp
 unfold sT at h;split at h
 · split at h
   · obtain⟨y,h1,rfl⟩:=map_some h;exact⟨c1p (i3 _ y h1).1,λ_ _ _ z=>nomatch z⟩
   · exact dflt h
 · rename_i op l p;split at h
   · exact dflt h
   · split at h
     · rename_i a _;have g:PW X (.BoolOp op [a] p) (TTv Γ Ex (tst ct c t)):=by
        cases op
        · exact b4a (i3 _ t h).1
        · exact b6J (i3 _ t h).1
       exact⟨g.pt,λ_ _ _ _=>g⟩
     · split at h
       · split at h
         · rename_i h1 h2;cases h;have g:=c1A (i3 _ _ h1).1 ((i3 _ _ h2).2 _ _ _ rfl);exact⟨g.pt,λ_ _ _ _=>g⟩
         · cases h
       · split at h
         · rename_i h1 h2;cases h;have g:=c1o (i3 _ _ h1).1 ((i3 _ _ h2).2 _ _ _ rfl);exact⟨g.pt,λ_ _ _ _=>g⟩
         · cases h
 · split at h
   · cases h
   · split at h
     · cases h
     · split at h
       · split at h
         · unfold b9m at h;split at h
           · rename_i hc;rw[ae] at hc;obtain⟨p,q,rfl⟩:=a8J hc.1;split at h
             · rename_i ho;cases b1s ho;obtain⟨y,h1,rfl⟩:=map_some h;exact⟨b8E (i1 _ y h1),λ_ _ _ z=>nomatch z⟩
             · rename_i ho;cases b1t hc.2 ho;obtain⟨y,h1,rfl⟩:=map_some h;exact⟨b5P (i1 _ y h1),λ_ _ _ z=>nomatch z⟩
           · obtain⟨hs,h⟩:=ifs h;split at h
             · rename_i h0 h1 h2;cases h;exact⟨b8M C.hu C.K (a0E h0) (i1 _ _ h1) (i1 _ _ h2) (T3 hs),λ_ _ _ z=>nomatch z⟩
             · rename_i h0 h1 h2;obtain⟨gg,rfl,_,g⟩:=c0m (k:=T.val) ih C h1 h;exact⟨g,λ_ _ _ z=>nomatch z⟩
             · cases h
         · cases h
       · split at h
         · cases h
         · split at h
           · rename_i ht;rw[ae] at ht;obtain⟨t1,t2⟩:=ht;cases isEmpty_iff.mp t1;cases isEmpty_iff.mp t2;unfold b9l at h;obtain⟨hs,h⟩:=ifs h;split at h
             · rename_i h0 h0' h1 h2 h3;cases h;exact⟨b8N C.hu C.K (a0E h0) (a0E h0') (i1 _ _ h1) (i1 _ _ h2) (i1 _ _ h3) (T3 hs),λ_ _ _ z=>nomatch z⟩
             · cases h
           · cases h
 · exact dflt h
end
variable{x:Str}
section
variable{X:Cx}{Γ:Gm}{G:GT}{ct:CT}{c:CF}{Ex:XK}{N:List Str}{sc:Scope}{bV:Bool}
theorem a8g{l:List Expr}{a b:Expr}(h:b3v l=some (a,b)):l=[a,b]:=by
 unfold b3v at h;split at h
 · cases h
 · split at h
   · cases h
   · obtain⟨e,h⟩:=ifs h;cases isEmpty_iff.mp e;cases h;rfl
theorem b4C{e:Expr}(h:b7r e=some x):∃p,e=.Name x p:=by
 unfold b7r at h;split at h
 · cases h;exact⟨_,rfl⟩
 · cases h
theorem a2B{ifs:List Expr}{x:E}(ih:a1T Γ G ct c n)(C:Cxt X Γ G ct c Ex N sc bV)(h:sLc G (cR G n) N sc cN tg iter ifs scope=some x):
 ∃p it js t y,x=.comp p it ↥(w8 8 tg) js t y/\PI X tg iter (TIv Γ Ex (evi ct c it))/\CompScope X.env.scope scope (w8 8 tg) (E4 scope)/\(E4 scope).map some=js.map (X.N[·]?)∧
  (∀D s₀ H₀ ex,PG (w5 X (w8 8 tg) (E4 scope) scope D s₀ H₀ ex) tg (TGv Γ p))/\(∀D s₀ H₀ ex,a7h (w5 X (w8 8 tg) (E4 scope) scope D s₀ H₀ ex) ifs (TTv Γ E0 (tst ct c t)))/\(∀D s₀ H₀ ex,PE (w5 X (w8 8 tg) (E4 scope) scope D s₀ H₀ ex) cN (TEv Γ E0 (ev ct c y)))∧
  (∀v,foldedSetIterable iter X.env v=pure v)/\(L4 p).all (λi=>decide (i<↥(w8 8 tg)))=true:=by
 obtain⟨i1,i2,i3,i4,i5⟩:=ih X Ex N sc bV C;unfold sLc at h;split at h
 · rename_i it et;split at h
   · rename_i js hjs;split at h
     · rename_i hc;rw[ae] at hc;have S0:CompScope sc scope (w8 8 tg) (E4 scope):=c0Q hc.1;have S:CompScope X.env.scope scope (w8 8 tg) (E4 scope):=by rw[C.sc];exact S0
       have hj:(E4 scope).map some=js.map (X.N[·]?):=by rw[C.hN];exact a8L hjs
       split at h
       · rename_i p y hp hy;split at h
         · rename_i hall;have pg:∀D s₀ H₀ ex,PG (w5 X (w8 8 tg) (E4 scope) scope D s₀ H₀ ex) tg (TGv Γ p):=λD s₀ H₀ ex=>((b3n (C.comp S0 D s₀ H₀ ex) 8).1 tg p hp).1;have pe:∀D s₀ H₀ ex,PE (w5 X (w8 8 tg) (E4 scope) scope D s₀ H₀ ex) cN (TEv Γ E0 (ev ct c y)):=λD s₀ H₀ ex=>(ih _ _ _ _ _ (C.comp S0 D s₀ H₀ ex)).1 cN y hy;split at h
           · cases h;refine⟨p,it,js,.yes,y,rfl,i5 _ _ _ et,S,hj,pg,λD s₀ H₀ ex=>?_,pe,a0Y hc.2,hall⟩;intro bE s σ H Q I q;refine b6U bE s σ H Q I ?_;obtain⟨env,ah,m,rl,q⟩:=q;exact q.ok rl.sim
           · obtain⟨z,h1,rfl⟩:=map_some h;exact⟨p,it,js,z,y,rfl,i5 _ _ _ et,S,hj,pg,λD s₀ H₀ ex=>b4h ((ih _ _ _ _ _ (C.comp S0 D s₀ H₀ ex)).2.2.1 _ z h1).1,pe,a0Y hc.2,hall⟩
           · cases h
         · cases h
       · cases h
     · cases h
   · cases h
 · cases h
theorem b5I (ih:a1T Γ G ct c n) (C:Cxt X Γ G ct c Ex N sc bV):∀e x,cE G N sc (n+1) e=some x->PE X e (TEv Γ Ex (ev ct c x)):=by
 intro e x h;obtain⟨i1,i2,i3,i4,i5⟩:=ih X Ex N sc bV C;replace h:sE G (cR G n) N sc e=some x:=h;unfold sE at h;split at h
 · unfold b9p at h;split at h
   · cases h;exact a_k (dd:=.int _) b1k (λ_ _=>rfl) c ct
   · cases h;exact a_k (dd:=.str _) b1h (λ_ _=>rfl) c ct
   · cases h;exact a_k (dd:=.bl _) b9D (λ_ _=>rfl) c ct
   · cases h;exact a_k (dd:=.non) b7d (λ_ _=>rfl) c ct
   · cases h
 · -- Name
   split at h
   · rename_i i hs;cases h;unfold slot at hs;obtain⟨hv,hs⟩:=ifs hs;rw[ae,ae] at hv;exact a_v (by rw[C.hN];exact a5x hs) (C.vis hv.1.1) (beq_eq_false_iff_ne.mpr (ax hv.1.2)) (beq_eq_false_iff_ne.mpr (ax hv.2)) c ct
   · obtain⟨hg,h⟩:=ifs h;obtain⟨d,h1,rfl⟩:=map_some h;obtain⟨u,v,s1,s2,s3⟩:=C.scal _ d h1;exact a_k (a2P (C.gl hg) s1 s2 (a0c hg).2.1) s3 c ct
 · split at h
   · rename_i h0 h1 h2;cases h;exact c1y (b5K h0) (i1 _ _ h1) (i1 _ _ h2)
   · cases h
 · unfold sUn at h;split at h
   · obtain⟨y,h1,rfl⟩:=map_some h;exact c1r (i1 _ y h1)
   · obtain⟨y,h1,rfl⟩:=map_some h;exact c2x (i1 _ y h1)
   · cases h
 · unfold sBo at h;split at h
   · cases h
   · split at h
     · exact b7b (i1 _ x h)
     · split at h
       · split at h
         · rename_i h1 h2;cases h;exact c2C (i1 _ _ h1) (i1 _ _ h2)
         · cases h
       · split at h
         · rename_i h1 h2;cases h;exact c1n (i1 _ _ h1) (i1 _ _ h2)
         · cases h
 · split at h
   · cases h
   · split at h
     · cases h
     · split at h
       · split at h
         · unfold b9r at h;split at h
           · rename_i hc;rw[ae] at hc;obtain⟨p,q,rfl⟩:=a8J hc.1;split at h
             · rename_i ho;cases b1s ho;obtain⟨y,h1,rfl⟩:=map_some h;exact c1t (i1 _ y h1)
             · rename_i ho;cases b1t hc.2 ho;obtain⟨y,h1,rfl⟩:=map_some h;exact b8D (i1 _ y h1)
           · obtain⟨hs,h⟩:=ifs h;split at h
             · rename_i h0 h1 h2;cases h;exact c1w C.hu C.K (a0E h0) (i1 _ _ h1) (i1 _ _ h2) (T3 hs)
             · rename_i h0 h1 h2;obtain⟨gg,rfl,g,_⟩:=c0m (k:=λg=>g) ih C h1 h;exact g
             · cases h
         · cases h
       · split at h
         · cases h
         · split at h
           · rename_i ht;rw[ae] at ht;obtain⟨t1,t2⟩:=ht;cases isEmpty_iff.mp t1;cases isEmpty_iff.mp t2;unfold b9q at h;obtain⟨hs,h⟩:=ifs h;split at h
             · rename_i h0 h0' h1 h2 h3;cases h;exact c1x C.hu C.K (a0E h0) (a0E h0') (i1 _ _ h1) (i1 _ _ h2) (i1 _ _ h3) (T3 hs)
             · cases h
           · cases h
 · rename_i z1 z2 z3 z4 z5 z6;clear z1 z2 z3 z4 z5 z6;unfold sE2 at h;split at h
   · unfold sSl at h;split at h
     · rename_i hs0;obtain⟨q,rfl⟩:=b3O hs0;split at h
       · rename_i h1 h2 h3;cases h;exact c2u C.K (i1 _ _ h1) (i4 _ _ h2) (i4 _ _ h3)
       · cases h
     · obtain⟨hs,h⟩:=ifs h;split at h
       · rename_i h1 h2;cases h;exact c2A C.hu C.K (i1 _ _ h1) (i1 _ _ h2) (a3z hs)
       · rename_i h1 h2;split at h
         · obtain⟨hg,h⟩:=ifs h;obtain⟨bF,hd,rfl⟩:=map_some h;exact b8F C hg hd (i1 _ _ h2) (a3z hs)
         · cases h
       · cases h
   · obtain⟨hb,h⟩:=ifs h;rw[ae] at hb;obtain⟨y,h1,rfl⟩:=map_some h;exact c1v C hb.1 hb.2 (i1 _ y h1)
   · obtain⟨y,h1,rfl⟩:=map_some h;exact c1s (i2 _ y h1).1
   · obtain⟨y,h1,rfl⟩:=map_some h;exact c1l (i2 _ y h1).1
   · split at h
     · split at h
       · cases h;exact b8H
       · cases h
     · obtain⟨bF,h1,h⟩:=Option.bind_eq_some_iff.mp h;obtain⟨hk,h⟩:=ifs h;cases h;exact b8I (cons_ne_nil _ _) h1 hk
   · rename_i f as ks cb;split at h
     · rename_i hk0;cases isEmpty_iff.mp hk0;split at h
       · rename_i nm np0;unfold sCn at h;split at h
         · rename_i hg;split at h
           · rename_i f np hf;obtain⟨hl,h⟩:=ifs h;obtain⟨y,h1,rfl⟩:=map_some h;obtain⟨g1,g2⟩:=i2 _ y h1;rw[ae] at hl;have eR:=ax hl.2;cases as with
             |nil=>exact absurd rfl eR
             |cons a r=>exact b8O C hf hg g2 g1
           · split at h
             · rename_i k hk;obtain⟨he,h⟩:=ifs h;cases h;subst he;exact c2z C hk hg
             · split at h
               · rename_i hb;have hm:=C.blt _ hb;split at h
                 · rename_i hx;subst hx;split at h
                   · rename_i h2;cases a8g h2;split at h
                     · rename_i hy;obtain⟨pp,rfl⟩:=b4C hy;obtain⟨hq,h⟩:=ifs h;rw[ae,ae] at hq;obtain⟨hp,q3,q4⟩:=hq;split at h
                       · rename_i hk;obtain⟨y,h1,rfl⟩:=map_some h;exact c1u hk C hg hm q3 (C.blt _ q4) hp (i1 _ y h1)
                       · cases h
                     · cases h
                   · cases h
                 · split at h
                   · rename_i b hbi;obtain⟨eR,h⟩:=ifs h;obtain⟨y,h1,rfl⟩:=map_some h;obtain⟨g1,g2⟩:=i2 _ y h1;cases as with
                     |nil=>exact absurd rfl eR
                     |cons a r=>exact c2B C hbi hg hm g2 g1
                   · cases h
               · cases h
         · cases h
       · rename_i o mm cx;unfold sCa at h;split at h
         · rename_i hc;rw[ae,ae] at hc;obtain⟨⟨c1,c2⟩,c3⟩:=hc;cases ax c3;unfold b9o at h;split at h
           · rename_i h2;cases a8g h2;obtain⟨hp,h⟩:=ifs h;rw[ae] at hp;split at h
             · rename_i h3 h4 h5;cases h;exact b8J C c1 c2 hp.1 hp.2 (i1 _ _ h3) (i1 _ _ h4) (i1 _ _ h5)
             · cases h
           · cases h
         obtain⟨hc,h⟩:=ifs h;rw[ae,ae,ae] at hc;obtain⟨⟨⟨c1,c2⟩,c3⟩,c4⟩:=hc;have c3:=ax c3;have c4:=ax c4;split at h
         · rename_i h0 h1 h2;cases h;obtain⟨g1,g2⟩:=i2 _ _ h2;cases as with
           |nil=>exact absurd rfl c4
           |cons a r=>exact c2y C h0 c1 c2 c3 g2 (i1 _ _ h1) g1
         · cases h
       · cases h
     · cases h
   · split at h
     · cases h
     · rename_i g t;obtain⟨hg0,h⟩:=ifs h;rw[ae] at hg0;obtain⟨tg,iter,ifs,a⟩:=g;cases isEmpty_iff.mp hg0.1;have ha:a=0:=ax hg0.2;subst ha;obtain⟨p,it,js,t,y,rfl,j1,j2,j3,j4,j5,j6,j7,j8⟩:=a2B ih C h;exact b8L C j1 j2 j3 j4 j5 j6 j7 j8
   · cases h
theorem a1p:∀n,a1T Γ G ct c n
 |0=>b3j
 |n+1=>λX Ex N sc bV C=>⟨b5I (a1p n) C,b3f (a1p n) C,b5F (a1p n) C,b5G (a1p n) C,b5H (a1p n) C⟩
end
def SQ(D:Ends):Out->AH->List Addr->Hp->Prop:=λo _ m1 H1=>match o with
 |.nx bI=>∀bS,EnvRel m1 H1 bI bS->D.nx bS H1
 |.rt d=>∀v,Rp m1 H1 d v->D.rt v H1
noncomputable def TSv(Γ:Gm)(E:XK)(f:u9->AH->R Out):TS:=λD σ H=>∃env ah m,Rel Γ env ah σ H m/\k8 Γ E m H (f env ah) (SQ D)
variable{st:Stmt}{tt:Expr}{f:Str}
section
variable{X:Cx}{Γ:Gm}{G:GT}{ct:CT}{c:CF}{Ex:XK}{N:List Str}{sc:Scope}{e a b:Expr}{p':Pos}{x y z:E}{i:Nat}
theorem a1r{e:Expr}{t:Option Expr}{l:Nat}{env:Env}(h:U3 e=true):swapsWith e t l env=pure false:=by cases e<;>first|rfl|cases h
theorem c1d{n:Str}(C:Cxt X Γ G ct c Ex N sc true)(hs:a3l true N sc n=some i)(hw:U3 e=true)(he:PE X e (TEv Γ Ex (ev ct c x))):PS X (.Assign [.Name n p'] e pos) (TSv Γ Ex (ex ct c (.set i x))):=by obtain⟨h1,h2,h3⟩:=a3k C hs;refine PS.imp (b0Z (by rw[C.hN];exact C.nd) h1 h2 he (a1r hw) h3) ?_;rintro D σ H ⟨env,ah,m,rl,q⟩;refine⟨env,ah,m,rl,k8.first rl q λd1 bN m1 H1 v1 p1 k1 bP r1 q1=>?_⟩;exact q1.ok bP.sim _ (bP.env.set r1)
theorem b8w{n:Str}{k:Nat}{ifs:List Expr}{cb:Pos}(C:Cxt X Γ G ct c Ex N sc true)(hs:a3l true N sc n=some i)(h:cE G N sc (k+1) (.ListComp cN [⟨tg,iter,ifs,0⟩] scope cb)=some x):PS X (.Assign [.Name n p'] (.ListComp cN [⟨tg,iter,ifs,0⟩] scope cb) pos) (TSv Γ Ex (ex ct c (.set i x))):=by obtain⟨h1,h2,h3⟩:=a3k C hs;obtain⟨p,it,js,t,y,rfl,j1,j2,j3,j4,j5,j6,j7,j8⟩:=a2B (a1p k) C (show sLc G (cR G k) N sc cN tg iter ifs scope=some x from h);refine PS.imp (b4d C.calm j1 j2 j3 j4 j5 j6 j7 (by rw[C.hN];exact C.nd) h1 h2 h3) ?_;rintro D σ H ⟨env,ah,m,rl,q⟩;refine a6Y j8 σ H _ ⟨env,ah,m,rl,k8.first rl q λd1 bN m1 H1 v1 p1 k1 bP r1 q1=>?_⟩;exact q1.ok bP.sim _ (bP.env.set r1)
theorem c2s(hw:U3 e=true)(he:PE X e (TEv Γ Ex (ev ct c x))):PS X (.Expr e pos) (TSv Γ Ex (ex ct c (.ex x))):=by refine PS.imp (b4c he (a1r hw)) ?_;rintro D σ H ⟨env,ah,m,rl,q⟩;refine⟨env,ah,m,rl,k8.first rl q λd1 bN m1 H1 v1 p1 k1 bP r1 q1=>?_⟩;exact q1.ok bP.sim _ bP.env
theorem c1e(he:PE X e (TEv Γ Ex (ev ct c x))):PS X (.Return (some e) pos) (TSv Γ Ex (ex ct c (.ret x))):=by refine PS.imp (b6O he) ?_;rintro D σ H ⟨env,ah,m,rl,q⟩;refine⟨env,ah,m,rl,k8.first rl q λd1 bN m1 H1 v1 p1 k1 bP r1 q1=>?_⟩;exact q1.ok bP.sim _ r1
theorem c1i:PS X st (TSv Γ Ex (ex ct c .bad)):=by rintro bE s σ H D I ⟨env,ah,m,rl,q⟩;exact q.elim
variable{t:T}{as bs:List Stmt}{sa sb:Ss}
theorem c1g:PSs X [] (TSv Γ Ex (exs ct c .nil)):=by refine PSs.imp b4b ?_;rintro D σ H ⟨env,ah,m,rl,q⟩;exact q.ok rl.sim σ rl.env
theorem b8y{s:S}(h1:PS X st (TSv Γ Ex (ex ct c s)))(h2:PSs X as (TSv Γ Ex (exs ct c sa))):PSs X (st::as) (TSv Γ Ex (exs ct c (.cons s sa))):=by
 refine PSs.imp (b0X h1 h2) ?_;rintro D σ H ⟨env,ah,m,rl,q⟩;refine⟨env,ah,m,rl,q.bind.mp λo bN m1 H1 p1 k1 s1 q1=>?_⟩;cases o with
 |nx bI=>exact λbS er=>⟨bI,bN,m1,⟨s1,er⟩,q1⟩
 |rt d=>exact q1.ok s1
theorem c2r(hc:PT X tt (TTv Γ Ex (tst ct c t)))(ha:PSs X as (TSv Γ Ex (exs ct c sa)))(hb:PSs X bs (TSv Γ Ex (exs ct c sb))):PS X (.If tt as bs pos) (TSv Γ Ex (ex ct c (.iff t sa sb))):=by
 refine PS.imp (b9z hc ha hb) ?_;rintro D σ H ⟨env,ah,m,rl,q⟩;refine⟨env,ah,m,rl,q.bind.mp λk bN m1 H1 p1 k1 s1 q1=>?_⟩;cases k with
 |true=>exact b7E ⟨env,bN,m1,rl.on p1 k1 s1,q1⟩
 |false=>exact b7F ⟨env,bN,m1,rl.on p1 k1 s1,q1⟩
theorem c1h{it:Expr}{ii:I}(C:Cxt X Γ G ct c Ex N sc true)(own:PassesOwn (model X.prog X.w) X.A X.env X.xe)(hi:PI X tg it (TIv Γ Ex (evi ct c ii)))(hg:PG X tg (TGv Γ p))(hb:PSs X bs (TSv Γ Ex (exs ct c sb)))(hs:a1z it=true):
 PS X (.For tg it bs [] pos) (TSv Γ Ex (ex ct c (.for p ii sb))):=by
 refine PS.imp (b6P own C.calm hi hg hb (a0Y hs)) ?_;rintro D σ H ⟨env,ah,m,rl,q⟩;refine⟨env,ah,m,rl,q.bind.mp λx bN m1 H1 p1 k1 s1 q1=>λ_ J hJ=>?_⟩;refine⟨λi mm σ H2=>mm=↥x.1-i/\i<=↥x.1/\∃env cq m2,Rel Γ env cq σ H2 m2/\Pre m1 m2/\Keep m1 m2 H1 H2/\k8 Γ Ex m2 H2 (K8 x.2 p (exs ct c sb) (x.1.drop i) env cq) (SQ D),?_,?_⟩
 · exact⟨_,rfl,Nat.zero_le _,env,bN,m1,rl.on p1 k1 s1,Pre.refl _,Keep.refl _ _,q1⟩
 · rintro i mm σ H2 ⟨hmm,hil,env,cq,m2,cH,p2,k2,q2⟩
   by_cases dl:i=↥x.1
   · refine .inl ?_;rw[dl,drop_length] at q2;unfold K8 at q2;split at q2
     · rename_i hgk;exact⟨(hJ i cq m2 H2 p2 k2 cH.sim hgk).1 dl,q2.ok cH.sim σ cH.env⟩
     · exact q2.elim
   · refine .inr ?_;have hlt:i<↥x.1:=Nat.lt_of_le_of_ne hil dl;have hdi:x.1[i]? =some x.1[i]:=ai hlt;rw[drop_eq_getElem_cons hlt] at q2;generalize x.1[i]=dd at q2 hdi;unfold K8 at q2;split at q2
     · rename_i hgk;obtain⟨go,yl⟩:=(hJ i cq m2 H2 p2 k2 cH.sim hgk).2 dd hdi;refine⟨go,λbS H'=>∃m',m'<mm/\(m'=↥x.1-(i+1)/\i+1<=↥x.1/\∃env cq m2,Rel Γ env cq bS H' m2/\Pre m1 m2/\Keep m1 m2 H1 H'/\k8 Γ Ex m2 H' (K8 x.2 p (exs ct c sb) (x.1.drop (i+1)) env cq) (SQ D)),λbS H' h=>h,λv H3 hy=>?_⟩;obtain⟨k3,s3,r3⟩:=yl v H3 hy;split at q2
       · exact q2.elim
       · rename_i envb hb;refine⟨env,dd,m2,envb,cH.env.mono (Pre.refl m2) k3,r3,hb,λσ4 er4 l4 s4=>⟨envb,cq,m2,⟨s3,er4⟩,?_⟩⟩;refine(q2.later (Pre.refl m2) k3).bind.mp λo ah5 m5 H5 p5 k5 s5 q5=>?_;cases o with
         |nx bI=>exact λbS er'=>⟨_,by ac_nf,rfl,hlt,bI,ah5,m5,⟨s5,er'⟩,p2.trans p5,k2.trans (k3.trans k5),q5⟩
         |rt d=>exact q5.ok s5
     · exact q2.elim
theorem c1a(own:PassesOwn (model X.prog X.w) X.A X.env X.xe)(hc:PT X tt (TTv Γ Ex (tst ct c t)))(hb:PSs X bs (TSv Γ Ex (exs ct c sb))):PS X (.While tt bs [] pos) (TSv Γ Ex (ex ct c (.whl t sb))):=by
 refine PS.imp (b0Y own hc hb) ?_;rintro D σ H ⟨env,ah,m,rl,q⟩;refine⟨λn σ H2=>∃env cq m2,Rel Γ env cq σ H2 m2/\k8 Γ Ex m2 H2 (a5W (tst ct c t) (exs ct c sb) n env cq) (SQ D),⟨_,env,ah,m,rl,q⟩,?_⟩;rintro n σ H2 ⟨env,cq,m2,cH,q2⟩;cases n with
 |zero=>exact q2.elim
 | succ n=>
  unfold a5W at q2;refine⟨env,cq,m2,cH,q2.bind.mp λk eT m3 H3 p3 k3 s3 q3=>?_⟩;have eF:=cH.on p3 k3 s3;cases k with
  |false=>exact b7F (k8.ok q3 s3 σ eF.env)
  |true=>
   refine b7E ⟨λbS H'=>∃m',m'<n+1/\∃env cq m2,Rel Γ env cq bS H' m2/\k8 Γ Ex m2 H' (a5W (tst ct c t) (exs ct c sb) m' env cq) (SQ D),λbS H' h=>h,env,eT,m3,eF,?_⟩;refine k8.mp (k8.bind q3) λo ah5 m5 H5 p5 k5 s5 q5=>?_;cases o with
   |nx bI=>exact λbS er'=>⟨n,aV n,bI,ah5,m5,⟨s5,er'⟩,q5⟩
   |rt d=>exact q5.ok s5
theorem c1f{pt:Pat}(hg:PG X tg (TGv Γ pt))(hv:PE X e (TEv Γ Ex (ev ct c z)))(hs:b5X e=true)(ht:(assignEach [tg] X.env).map (·.2)=[assign tg X.env])(hw:swappedStores [tg] e X.env=pure none):PS X (.Assign [tg] e pos) (TSv Γ Ex (ex ct c (.pat pt z))):=by
 refine PS.imp (b1a hv hg (show swapsWith e (some tg) pos.line X.env=pure false from a1r (by cases e<;>first|rfl|cases hs)) hw ht) ?_;rintro D σ H ⟨env,ah,m,rl,q⟩;refine⟨env,ah,m,rl,k8.first rl q λd1 bN m1 H1 v1 p1 k1 bP r1 q1=>?_⟩;split at q1
 · rename_i bI hb;exact⟨env,d1,m1,bI,bP.env,r1,hb,λbS er _ _=>q1.ok bP.sim bS er⟩
 · exact q1.elim
theorem c1b{o k:Expr}(C:Cxt X Γ G ct c Ex N sc true)(ho:PE X o (TEv Γ Ex (ev ct c x)))(hk:PE X k (TEv Γ Ex (ev ct c y)))(hv:PE X e (TEv Γ Ex (ev ct c z)))(hw:U3 e=true)(hns:a2T k=true):PS X (.Assign [.Subscript o k p'] e pos) (TSv Γ Ex (ex ct c (.six x y z))):=by have hg:PG X (.Subscript o k p') (c0o (TEv Γ Ex (ev ct c x)) (TEv Γ Ex (ev ct c y)) _):=b6Y ho hk (c1O (Γ:=Γ) (E:=Ex) C.hu) (by intro v;cases k<;>first|rfl|cases hns);refine PS.imp (b1a hv hg (show swapsWith e (some (.Subscript o k p')) pos.line X.env=pure false from a1r hw) (by cases e<;>rfl) rfl) ?_;rintro D σ H ⟨env,ah,m,rl,q⟩;refine⟨env,ah,m,rl,k8.first rl q λd1 bN m1 H1 v1 p1 k1 bP r1 q1=>?_⟩;refine⟨env,bN,m1,bP,k8.first bP q1 λd2 cq m2 H2 v2 p2 k2 cH r2 q2=>?_⟩;refine⟨env,cq,m2,cH,k8.first cH q2 λd3 eT m3 H3 v3 p3 k3 eF r3 q3=>?_⟩;refine⟨d2,d3,d1,eT,m3,eF.sim,r2.mono p3 k3,r3,r1.mono (p2.trans p3) (k2.trans k3),q3.bind.mp λ_ ah4 m4 H4 p4 k4 s4 q4=>?_⟩;exact q4.ok s4 σ (eF.env.mono p4 k4)
theorem c1c{o:Expr}(C:Cxt X Γ G ct c Ex N sc true)(ho:PE X o (TEv Γ Ex (ev ct c x)))(hv:PE X e (TEv Γ Ex (ev ct c z)))(hw:U3 e=true)(hf:G.atts.contains f=true):PS X (.Assign [.Attribute o f p'] e pos) (TSv Γ Ex (ex ct c (.sfl x f z))):=by
 refine PS.imp (b6Q ho hv (a1r hw)) ?_;rintro D σ H ⟨env,ah,m,rl,q⟩;refine⟨env,ah,m,rl,k8.first rl q λd1 bN m1 H1 v1 p1 k1 bP r1 q1=>?_⟩;refine⟨env,bN,m1,bP,k8.first bP q1 λd2 cq m2 H2 v2 p2 k2 cH r2 q2=>?_⟩;unfold a4Y at q2;split at q2
 · split at q2
   · rename_i k fs e2;split at q2
     · rename_i hl;obtain⟨ad,rfl,hm⟩:=r2;obtain⟨dx,gs,g1,g2,g3⟩:=cH.sim.at hm e2;obtain⟨a1,a2⟩:=C.att k g3;have kp:Keep m2 m2 H2 (upd H2 ad (.ins (Γ.cA k) dx (W4 f v1 gs))):=Keep.put hm g1 λz=>z;refine⟨ad,Γ.cA k,dx,gs,rfl,g1,a1,a2 f hf,by rw[←Paired.length g2];exact hl,?_⟩;have s3:=cH.sim.write (c:=.obj k (a4s f d1 fs)) hm g1 (λz=>z) ⟨dx,_,i8,(Fl.put (r1.mono p2 k2) g2).mono (Pre.refl m2) kp.im,g3⟩;exact k8.ok (k8.later q2 (Pre.refl m2) kp) s3 σ (cH.env.mono (Pre.refl m2) kp)
     · exact q2.elim
   · exact q2.elim
 · exact q2.elim
end
structure Cxs(X:Cx)(Γ:Gm)(G:GT)(ct:CT)(c:CF)(Ex:XK)(N:List Str)(sc1:Scope):Prop extends Cxt X Γ G ct c Ex N sc1 true where
 own:PassesOwn (model X.prog X.w) X.A X.env X.xe
section
variable{X:Cx}{Γ:Gm}{G:GT}{ct:CT}{c:CF}{Ex:XK}{N:List Str}{sc:Scope}
theorem b4L{k:Nat}{gens:List Comprehension}{y:E}(h:cE G N sc (k+1) (.ListComp cN gens scope pos)=some y):∃tg iter ifs,gens=[⟨tg,iter,ifs,0⟩]:=by
 cases gens with
 |nil=>exact absurd (show none=some y from h) ⋯
 |cons g t=>
  replace h:(if t.isEmpty&&decide (g.is_async=0) then sLc G (cR G k) N sc cN g.target g.iter g.ifs scope else none)=some y:=h;obtain⟨hg,h⟩:=ifs h;rw[ae] at hg;obtain⟨tg,iter,ifs,a⟩:=g;cases isEmpty_iff.mp hg.1;have ha:a=0:=ax hg.2;subst ha;exact⟨_,_,_,rfl⟩
theorem b9n(C:Cxs X Γ G ct c Ex N sc){r:List Stmt->Option Ss}(hr:∀l ss,r l=some ss->PSs X l (TSv Γ Ex (exs ct c ss))):∀st s,sS G N sc r st=some s->PS X st (TSv Γ Ex (ex ct c s)):=by
 intro st s h;obtain⟨i1,i2,i3,i4,i5⟩:=a1p 40 X Ex N sc true C.toCxt;unfold sS at h;split at h
 · rename_i tgs e pe;split at h
   · cases h
   · split at h
     · rename_i hu;cases isEmpty_iff.mp hu;unfold sAs at h;split at h
       · rename_i x px;split at h
         · rename_i i y h1 h2;obtain⟨hw,h⟩:=ifs h;cases h
           by_cases hn:U3 e=true
           · exact c1d C.toCxt h1 hn (i1 _ _ h2)
           · rw[br] at hw;have hl:b9X e=true:=hw.resolve_left hn;cases e<;>first|(cases hl;done)|skip
             obtain⟨tg,iter,ifs,rfl⟩:=b4L h2;exact b8w C.toCxt h1 h2
         · cases h
       · split at h
         · rename_i h1 h2 h3;obtain⟨hw,h⟩:=ifs h;cases h;rw[ae] at hw;exact c1b C.toCxt (i1 _ _ h1) (i1 _ _ h2) (i1 _ _ h3) hw.1 hw.2
         · cases h
       · split at h
         · rename_i h1 h2;obtain⟨hw,h⟩:=ifs h;cases h;rw[ae] at hw;exact c1c C.toCxt (i1 _ _ h1) (i1 _ _ h2) hw.1 hw.2
         · cases h
       · split at h
         · rename_i h1 h2;obtain⟨hw,h⟩:=ifs h;cases h;exact c1f ((b3n C.toCxt 8).1 _ _ h1).1 (i1 _ _ h2) hw rfl (by cases e<;>first|rfl|cases hw)
         · cases h
       · cases h
     · cases h
 · obtain⟨hw,h⟩:=ifs h;obtain⟨y,h1,rfl⟩:=map_some h;exact c2s hw (i1 _ _ h1)
 · split at h
   · obtain⟨y,h1,rfl⟩:=map_some h;exact c1e (i1 _ _ h1)
   · cases h
 · split at h
   · rename_i h1 h2 h3;cases h;exact c2r (i3 _ _ h1).1 (hr _ _ h2) (hr _ _ h3)
   · cases h
 · split at h
   · rename_i hel;cases isEmpty_iff.mp hel;split at h
     · rename_i h1 h2 h3;obtain⟨hs,h⟩:=ifs h;cases h;exact c1h C.toCxt C.own (i5 _ _ _ h2) ((b3n C.toCxt 8).1 _ _ h1).1 (hr _ _ h3) hs
     · cases h
   · cases h
 · split at h
   · rename_i hel;cases isEmpty_iff.mp hel;split at h
     · rename_i h1 h2;cases h;exact c1a C.own (i3 _ _ h1).1 (hr _ _ h2)
     · cases h
   · cases h
 · cases h;exact c1i
 · cases h
theorem b0F(C:Cxs X Γ G ct c Ex N sc){r:List Stmt->Option Ss}(hr:∀l ss,r l=some ss->PSs X l (TSv Γ Ex (exs ct c ss))):∀l ss,sSs G N sc r l=some ss->PSs X l (TSv Γ Ex (exs ct c ss))
 |[],ss,h=>by unfold sSs at h;cases h;exact c1g
 |st::l,ss,h=>by
  unfold sSs at h;split at h
  · rename_i h1 h2;cases h;exact b8y (b9n C hr _ _ h1) (b0F C hr l _ h2)
  · cases h
theorem b3e(C:Cxs X Γ G ct c Ex N sc):∀n l ss,cSs G N sc n l=some ss->PSs X l (TSv Γ Ex (exs ct c ss))
 |0,l,ss,h=>absurd (show none=some ss from h) ⋯
 |n+1,l,ss,h=>b0F C (b3e C n) l ss h
end
structure RowOk(K:PySem.W.Frag)(G:GT)(F:Nat->Option Fn)(x qual:Str)(id np0:Nat)(f:Addr)(fd:FuncData)(st:Stmt)(N ps:List Str):Prop where
 fn:Fun K x qual st f fd
 sc:FnScope N ps (y8 st)
 bd:U0 K fd ps []
 np:↥ps=np0
 F:∃fn,F id=some fn/\fn.np=np0/\fn.ns=↥N/\cSs G N (y8 st) 20 (O2 st)=some fn.body
structure Stat(P:Program)(w:World)(Γ:Gm)(G:GT)(ct:CT)(F:Nat->Option Fn)(mg:Str->Option Value):Prop where
 scal:∀x d,G.scal.lookup x=some d->∃u v,mg x=some u/\l8 v u/\∀m H,Rp m H d v
 tups:∀x ds,G.tups.lookup x=some ds->∃a vs,mg x= ~~~a/\(∀H,SqT Γ.K H a vs)/\∀m H,Rps m H ds vs
 dicts:∀x bF,G.dicts.lookup x=some bF->∃a gs,mg x= ~~~a/\b0g P w Γ.K a gs/\∀m H,DK m H bF gs
 blt:∀x,G.blt.contains x=true->mg x=none
 fn:∀x id np,G.fn.lookup x=some (id,np)->∃f fd st N ps,mg x= ~~~f/\RowOk Γ.K G F x x id np f fd st N ps
 obj:∀x k,G.obj.lookup x=some k->k∈Γ.ob/\mg x=some (.ref (Γ.cA k))/\∃f fd st N ps qual,Mk Γ.K (Γ.cA k) f/\RowOk Γ.K G F "__init__" qual (ct.init k) 1 f fd st N ps
 att:∀k,k∈Γ.ob->Cls Γ.K (Γ.cA k)/\∀f,G.atts.contains f=true->a0v Γ.K (Γ.cA k) f
variable{ds:List D}{np:Nat}{m':List Addr}{H':Hp}{id:Nat}
section
variable{P:Program}{w:World}{Γ:Gm}{G:GT}{ct:CT}{F:Nat->Option Fn}{mg:Str->Option Value}
theorem a9X{N:List Str}{ns:Nat}(rs:Rps m H ds vs)(hn:ns=↥N)(hd:↥ds=np):EnvRel m H (ds.map some++List.replicate (ns-np) none) (L2.a1s N vs):=by
 unfold L2.a1s;refine⟨by simp[rs.len,hn,hd],λi d e=>?_⟩
 by_cases hi:i<↥ds
 · rw[aw (by simpa using hi),ak] at e;rw[aw (by simpa [rs.len] using hi),ak];cases hd':ds[i]? with
   |none=>rw[hd'] at e;cases e
   |some d'=>
    rw[hd'] at e;cases e;obtain⟨v,h1,h2⟩:=rs.get hd';exact⟨v,by rw[h1];rfl,h2⟩
 · rw[av (by simpa using hi),bD] at e;split at e<;>cases e
noncomputable def b9E:R Out->R D
 |.ok (.nx _) h=>.ok .non h
 |.ok (.rt d) h=>.ok d h
 |.no=>.no
theorem a3R(n:Nat)(f:Nat)(ds:List D)(h:AH):b5 ct F (n+1) f ds h=match F f with
 |none=>.no
 |some fd=>if ↥ds=fd.np then gcR fd.gc h (b9E (exs ct (b5 ct F n) fd.body (ds.map some++List.replicate (fd.ns-fd.np) none) h)) else .no:=by
 show(match F f with
  |none=>R.no
  |some fd=>if ↥ds=fd.np then gcR fd.gc h (match exs ct (b5 ct F n) fd.body (ds.map some++List.replicate (fd.ns-fd.np) none) h with
   |.ok (.nx _) h'=>.ok .non h'
   |.ok (.rt d) h'=>.ok d h'
   |.no=>.no) else .no)=_
 cases F f with
 |none=>rfl
 |some fd=>
  simp only;generalize exs ct (b5 ct F n) fd.body (ds.map some++List.replicate (fd.ns-fd.np) none) h=r;cases r with
  |ok o h=>cases o<;>rfl
  |no=>rfl
theorem a8o:(∀d v v' m0 H0,↥m0=n->Rp m0 H0 d v'->Rp m' H d v->Rp (m'.take n) H d v)/\∀l vs eP m0 H0,↥m0=n->Rps m0 H0 l eP->Rps m' H l vs->Rps (m'.take n) H l vs:=by
 refine D.ind (P:=λd=>∀v v' m0 H0,↥m0=n->Rp m0 H0 d v'->Rp m' H d v->Rp (m'.take n) H d v) (Q:=λl=>∀vs eP m0 H0,↥m0=n->Rps m0 H0 l eP->Rps m' H l vs->Rps (m'.take n) H l vs) ?_ ?_ ?_ ?_ ?_ ?_ ?_ ?_
 · intro v v' m0 H0 _ _ h;exact h
 · intro b v v' m0 H0 _ _ h;exact h
 · intro b v v' m0 H0 _ _ h;exact h
 · intro b v v' m0 H0 _ _ h;exact h
 · rintro l ih v v' m0 H0 hn ⟨a',eP,_,_,q'⟩ ⟨a,vs,rfl,e,q⟩;exact⟨a,vs,rfl,e,ih vs eP m0 H0 hn q' q⟩
 · rintro k v v' m0 H0 hn ⟨a',_,e'⟩ ⟨a,rfl,e⟩;refine⟨a,rfl,?_⟩;have:=(ac.mp e').1;rw[bC nofun];exact e
 · intro vs eP m0 H0 _ _ h;exact h
 · rintro d r ih ihs vs eP m0 H0 hn ⟨v',t',_,q1',q2'⟩ ⟨v,t,rfl,q1,q2⟩;exact⟨v,t,rfl,ih v v' m0 H0 hn q1' q1,ihs t t' m0 H0 hn q2' q2⟩
theorem a6t{β':Type}{R R':α->β->Prop}{R0:α->β'->Prop}(f:∀a b b',R0 a b'->R a b->R' a b){l:List α}{l':List β'}(h:Paired R0 l l'):∀{l2:List β},Paired R l l2->Paired R' l l2:=by
 induction h with
 |nil=>
  intro l2 h;cases h;exact .nil
 |cons h t ih=>
  intro l2 q;obtain- |⟨a,b⟩:=q;exact .cons (f _ _ _ h a) (ih b)
theorem b0d{a a0:Addr}{c:Cell}(hn:↥m=n)(h0:G3 Γ m H0 a0 c)(h:G3 Γ m' H a c):G3 Γ (m'.take n) H a c:=by
 have rp:=λd v v' (h1:Rp m H0 d v') (h2:Rp m' H d v)=>(a8o (m':=m') (n:=n) (H:=H)).1 d v v' m H0 hn h1 h2;have rps:=λd v v' (h1:Rps m H0 d v') (h2:Rps m' H d v)=>(a8o (m':=m') (n:=n) (H:=H)).2 d v v' m H0 hn h1 h2;have pr:∀{κ κ' κ'':Type} {l:List (κ×D)} {l':List (κ'×V)} {l2:List (κ''×V)} {A:κ->κ'->Prop} {B:κ->κ''->Prop},Paired (λp q=>A p.1 q.1/\Rp m H0 p.2 q.2) l l'->Paired (λp q=>B p.1 q.1/\Rp m' H p.2 q.2) l l2->Paired (λp q=>B p.1 q.1/\Rp (m'.take n) H p.2 q.2) l l2:=
  λh0 h=>a6t (λa b b' x y=>⟨y.1,rp _ _ _ x.2 y.2⟩) h0 h
 cases c with
 |lst l=>obtain⟨eP,_,r'⟩:=h0;obtain⟨vs,e,r⟩:=h;exact⟨vs,e,rps _ _ _ r' r⟩
 |rol l=>obtain⟨eP,_,r',_⟩:=h0;obtain⟨vs,e,r,z⟩:=h;exact⟨vs,e,rps _ _ _ r' r,z⟩
 |dict l=>
  rcases h with⟨bF,e,r⟩|⟨bF,e,r⟩
  · rcases h0 with⟨kvs',_,r'⟩|⟨kvs',_,r'⟩
    · exact .inl ⟨bF,e,pr (A:=λp q=>K7 p=some q) (B:=λp q=>K7 p=some q) r' r⟩
    · exact .inl ⟨bF,e,pr (A:=fun(p:D) q=>∃l,p=D.tup l/\G7 l=some q) (B:=λp q=>K7 p=some q) r' r⟩
  · rcases h0 with⟨kvs',_,r'⟩|⟨kvs',_,r'⟩
    · exact .inr ⟨bF,e,pr (A:=λp q=>K7 p=some q) (B:=fun(p:D) q=>∃l,p=D.tup l/\G7 l=some q) r' r⟩
    · exact .inr ⟨bF,e,pr (A:=fun(p:D) q=>∃l,p=D.tup l/\G7 l=some q) (B:=fun(p:D) q=>∃l,p=D.tup l/\G7 l=some q) r' r⟩
 |obj k fs=>obtain⟨dx',gs',_,r',_⟩:=h0;obtain⟨dx,gs,e,r,z⟩:=h;exact⟨dx,gs,e,pr (A:=λp q=>p=q) (B:=λp q=>p=q) r' r,z⟩
theorem Sim.drop{eO:AH}(s:Sim Γ ah m H)(s':Sim Γ eO m' H')(p:Pre m m')(k:Keep m m' H H')(h:eO.take ↥ah=ah):Sim Γ ah m H':=by
 have hm:m'.take ↥ah=m:=by obtain⟨t,rfl⟩:=p;rw[←s.len,List.take_left]
 refine⟨s.len,s.nd,λn a c hn hc=>?_⟩;have hl:=(ac.mp hc).1;have eY:eO[n]? =some c:=by rw[←h,bC hl] at hc;exact hc
 have:=b0d (n:=↥ah) s.len (s.at hn hc) (s'.at (p.get hn) eY)
 rwa [hm] at this
theorem a9U{a:Addr}{c:Cell}(f:c.flat=true)(h:G3 Γ m H a c):G3 Γ m' H a c:=by
 cases c with
 |lst l=>obtain⟨vs,e,r⟩:=h;exact⟨vs,e,(a5c (m':=m')).2 _ _ f r⟩
 | dict l=>
  have go:∀{κ:Type} {A:D->κ->Prop} {l:List (D×D)} {l2:List (κ×V)},(l.all λp=>p.1.flat&&p.2.flat)=true->Paired (λp q=>A p.1 q.1/\Rp m H p.2 q.2) l l2->Paired (λp q=>A p.1 q.1/\Rp m' H p.2 q.2) l l2:=by
   intro κ A l l2 hf hp
   induction hp with
   |nil=>exact .nil
   |cons h t ih=>
    rw[all_cons,ae,ae] at hf;exact .cons ⟨h.1,(a5c (m':=m')).1 _ _ hf.1.2 h.2⟩ (ih hf.2)
  rcases h with⟨bF,e,r⟩|⟨bF,e,r⟩
  · exact .inl ⟨bF,e,go (A:=λp q=>K7 p=some q) f r⟩
  · exact .inr ⟨bF,e,go (A:=fun(p:D) q=>∃l,p=D.tup l/\G7 l=some q) f r⟩
 |_=>cases f
theorem c0n {E:XK} {g:Nat} {r:R Out} (s:Sim Γ ah m H) (h:i9 Γ E m H (gcR g ah (b9E r)) Q):k8 Γ E m H r (SQ {nx:=λ_ H'=>Q .non H',rt:=Q}):=by
 have main : ∀ {d:D} {eO:AH},i9 Γ E m H (gcR g ah (.ok d eO)) Q->∀m' H' v,Pre m m'->Keep m m' H H'->Sim Γ eO m' H'->Rp m' H' d v->Q v H':=by
  intro d eO h m' H' v p k s' rv;unfold gcR at h;simp only at h;split at h
  · exact h m' H' v p k s' rv
  · split at h
    · obtain⟨hh,h⟩:=ifq h;exact h m H' v (Pre.refl m) ⟨k.im,k.out,λ_ z=>.inl z⟩ (s.drop s' p k hh.1) ((a5c (m':=m)).1 d v hh.2 rv)
    · split at h
      · rename_i kk;split at h
        · rename_i c hc;obtain⟨hh,h⟩:=ifq h;obtain⟨a,rfl,ha⟩:=rv;have s0:=s.drop s' p k hh.1;have hna:a∉m:=λz=>by obtain⟨i,hi⟩:=List.getElem?_of_mem z;have e1:=p.get hi;have hlt:=(ac.mp hi).1;obtain⟨h1,e1⟩:=ac.mp e1;obtain⟨h2,e2⟩:=ac.mp ha;have:=(getElem_inj s'.nd).mp (e1.trans e2.symm);have hl:=s.len;ac_nf
          have Hn:H a=none:=by
           rcases k.fr a (aI ha) with z|z
           · exact absurd z hna
           · exact z
          refine h (m++[a]) H' (.ref a) (Pre.snoc m a) ⟨k.im,k.out,λb hb=>?_⟩ ?_ ⟨a,rfl,?_⟩
          · rcases aN.mp hb with z|z
            · exact .inl z
            · simp at z;subst z;exact .inr Hn
          · refine⟨by simp[s.len],a0X s.nd hna,λn b cc hn dD=>?_⟩
            by_cases hl:n<↥m
            · rw[aw hl] at hn;rw[aw (by rw[←s.len];exact hl)] at dD;exact(s0.at hn dD).mono' (Pre.snoc m a) (λ_ _ _ z=>z) rfl
            · have hn':n=↥m:=by have:=(ac.mp hn).1;simp at this;ac_nf
              subst hn';rw[av (aj _)] at hn;rw[s.len,av (aj _)] at dD;simp at hn dD;subst hn;subst dD;exact a9U hh.2.2 (s'.at ha hc)
          · rw[←s.len,av (aj _)];simp
        · exact h.elim
      · exact h.elim
 cases r with
 |ok o eO=>
  cases o with
  |nx env=>exact λm' H' p k s' bS _=>main h m' H' .non p k s' rfl
  |rt d=>exact λm' H' p k s' v rv=>main h m' H' v p k s' rv
 |no=>exact h.elim
theorem a5B(S:Stat P w Γ G ct F mg)(ih1:∀x id np,G.fn.lookup x=some (id,np)->∃f fd ps,↥ps=np/\mg x= ~~~f/\PySem.W.keepIn Γ.K (.ref f)=true/\U0 Γ.K fd ps []/\∀base,FnOk P w Γ.K mg base CX0 (2*n+6) f fd ps (a4W Γ (b5 ct F n) id np))
 (ih2:∀x k,G.obj.lookup x=some k->k∈Γ.ob/\mg x=some (.ref (Γ.cA k))/\∃f fd ps,↥ps=1/\Mk Γ.K (Γ.cA k) f/\U0 Γ.K fd ps []/\∀base,FnOk P w Γ.K mg base CX0 (2*n+6) f fd ps (a4W Γ (b5 ct F n) (ct.init k) 1))
 (ar:∀x id np,G.fn.lookup x=some (id,np)->∀ds h,↥ds≠np->b5 ct F n id ds h=.no)
 {qual:Str} {f:Addr} {fd:FuncData} {N ps:List Str} (R:RowOk Γ.K G F x qual id np f fd st N ps) (base:Heap):FnOk P w Γ.K mg base CX0 (2*(n+1)+6) f fd ps (a4W Γ (b5 ct F (n+1)) id np):=by
 obtain⟨fn,F1,F2,F3,F4⟩:=R.F;obtain⟨oc,od,kV,dh,pm,an,cQ,ct',eI,rfl,lk,eS⟩:=R.fn.ex;refine c0q (k:=2*n+7) lk eS R.sc (λvs H Q E h=>?_) λA outer s H vs Q E hr eQ=>?_
 · obtain⟨ds,ah,m,h1,h2,_⟩:=h;rw[h2.len,h1,R.np]
 · obtain⟨ds,ah,m,h1,h2,h3,h4⟩:=eQ;have C:Cxt (a7X CX0 P w Γ.K mg base N qual (y8 st) f cQ A outer s H E) Γ G ct (b5 ct F n) E N (y8 st) true:=by
    refine⟨rfl,R.sc.nd,rfl,rfl,?_,rfl,λ_ _=>rfl,S.scal,S.tups,S.dicts,S.blt,λy i j hy=>?_,λy k hy=>?_,S.att⟩
    · exact Nat.lt_of_le_of_lt (Nat.add_le_add_left (by decide:8<=64) _) hr.units
    · obtain⟨f',fd',ps',a1,a2,a3,a4,a5⟩:=ih1 y i j hy;exact⟨2*n+6,f',fd',ps',a1,hr.mono nofun,a2,a3,a4,a5 base,ar y i j hy⟩
    · obtain⟨b1,b2,f',fd',ps',a1,a2,a3,a4⟩:=ih2 y k hy;exact⟨b1,2*n+6,f',fd',ps',a1,hr.mono nofun,a2,b2,a3,a4 base⟩
   have Cs:Cxs (a7X CX0 P w Γ.K mg base N qual (y8 st) f cQ A outer s H E) Γ G ct (b5 ct F n) E N (y8 st):=by exact⟨C,PassesOwn.leaving⟩
   refine⟨_,b3e Cs 20 _ _ F4,ds.map some++List.replicate (fn.ns-fn.np) none,ah,m,⟨h3,a9X h2 F3 (by rw[h1,F2])⟩,?_⟩;rw[a3R,F1] at h4;simp only at h4;rw[az (by rw[h1,F2])] at h4;exact c0n h3 h4
theorem b3h(S:Stat P w Γ G ct F mg):∀n x id np,G.fn.lookup x=some (id,np)->∀ds h,↥ds≠np->b5 ct F n id ds h=.no
 |0,_,_,_,_,_,_,_=>rfl
 |n+1,x,id,np,hx,ds,h,hl=>by obtain⟨_,_,_,_,_,_,R⟩:=S.fn x id np hx;obtain⟨fn,F1,F2,_⟩:=R.F;rw[a3R,F1];simp only;rw[aA (by rw[F2];exact hl)]
theorem b7S(S:Stat P w Γ G ct F mg):∀n,(∀x id np,G.fn.lookup x=some (id,np)->∃f fd ps,↥ps=np/\mg x= ~~~f/\PySem.W.keepIn Γ.K (.ref f)=true/\U0 Γ.K fd ps []/\∀base,FnOk P w Γ.K mg base CX0 (2*n+6) f fd ps (a4W Γ (b5 ct F n) id np))∧
 (∀x k,G.obj.lookup x=some k->k∈Γ.ob/\mg x=some (.ref (Γ.cA k))/\∃f fd ps,↥ps=1/\Mk Γ.K (Γ.cA k) f/\U0 Γ.K fd ps []/\∀base,FnOk P w Γ.K mg base CX0 (2*n+6) f fd ps (a4W Γ (b5 ct F n) (ct.init k) 1)):=by
 have zero:∀{k:Nat} {f:Addr} {fd:FuncData} {ps:List Str} {id np:Nat} {base:Heap},FnOk P w Γ.K mg base CX0 k f fd ps (a4W Γ (b5 ct F 0) id np):=fun{k f fd ps id np base}=>
  ⟨λvs H Q E h=>by obtain⟨_,_,_,_,_,_,z⟩:=h;exact z.elim,λA outer s H args us vs Q E _ _ _ _ h=>by obtain⟨_,_,_,_,_,_,z⟩:=h;exact z.elim⟩
 intro n
 induction n with
 |zero=>
  refine⟨λx id np hx=>?_,λx k hk=>?_⟩
  · obtain⟨f,fd,st,N,ps,g,R⟩:=S.fn x id np hx;exact⟨f,fd,ps,R.np,g,R.fn.kp,R.bd,λbase=>zero⟩
  · obtain⟨o1,o2,f,fd,st,N,ps,qual,M,R⟩:=S.obj x k hk;exact⟨o1,o2,f,fd,ps,R.np,M,R.bd,λbase=>zero⟩
 |succ n ih=>
  refine⟨λx id np hx=>?_,λx k hk=>?_⟩
  · obtain⟨f,fd,st,N,ps,g,R⟩:=S.fn x id np hx;exact⟨f,fd,ps,R.np,g,R.fn.kp,R.bd,λbase=>a5B S ih.1 ih.2 (b3h S n) R base⟩
  · obtain⟨o1,o2,f,fd,st,N,ps,qual,M,R⟩:=S.obj x k hk;exact⟨o1,o2,f,fd,ps,R.np,M,R.bd,λbase=>a5B S ih.1 ih.2 (b3h S n) R base⟩
end
end EV
namespace L2T
open PySem
abbrev cd(z:Str):List Nat:=z.cps.toList
variable{x:Str}
theorem U9{y:Str}(h:cd x=cd y):x=y:=by cases x;cases y;exact congrArg Str.mk (Array.toList_inj.mp h)
theorem E3(x y:Str):cd (x++y)=cd x++cd y:=by show(x.cps++y.cps).toList=_;simp
theorem u7(x:Str):↥(cd x)=↥x:=by simp[cd,Str.length]
noncomputable def jn(c:Nat):List (List Nat)->List Nat
 |[]=>[]
 |[x]=>x
 |x::y::r=>x++c::jn c (y::r)
theorem a2X(c:Nat):∀ps:List Str,cd (Str.join ⟨#[c]⟩ ps)=jn c (ps.map cd)
 |[]=>rfl
 |[x]=>rfl
 |x::y::r=>by show cd (x++⟨#[c]⟩++Str.join ⟨#[c]⟩ (y::r))=cd x++c::jn c ((y::r).map cd);rw[E3,E3,a2X c (y::r)];simp[cd]
theorem a4H{c:Nat}:∀{p q a b:List Nat},c∉p->c∉q->p++c::a=q++c::b->p=q/\a=b
 |[],[],a,b,_,_,h=>⟨rfl,by simpa using h⟩
 |[],y::q,a,b,_,hq,h=>by have e:c=y:=(List.cons.inj h).1;exact absurd (by rw[e];exact ba) hq
 |x::p,[],a,b,hp,_,h=>by have e:x=c:=(List.cons.inj h).1;exact absurd (by rw[←e];exact ba) hp
 |x::p,y::q,a,b,hp,hq,h=>by obtain⟨e1,e2⟩:=List.cons.inj h;obtain⟨e3,e4⟩:=a4H (λz=>hp (aF _ z)) (λz=>hq (aF _ z)) e2;exact⟨by rw[e1,e3],e4⟩
theorem b1L{c:Nat}:∀{ps qs:List (List Nat)},ps≠[]->qs≠[]->(∀p∈ps,c∉p)->(∀q∈qs,c∉q)->jn c ps=jn c qs->ps=qs
 |[],_,h,_,_,_,_=>absurd rfl h
 |_::_,[],_,h,_,_,_=>absurd rfl h
 |[x],[y],_,_,_,_,h=>by rw[show x=y from h]
 |[x],y::z::r,_,_,hp,_,h=>by have h':x=y++c::jn c (z::r):=h;exact absurd (by rw[h'];simp) (hp x ba)
 |x::y::r,[z],_,_,_,hq,h=>by have h':x++c::jn c (y::r)=z:=h;exact absurd (by rw[←h'];simp) (hq z ba)
 |x::y::r,z::u::t,_,_,hp,hq,h=>by obtain⟨e1,e2⟩:=a4H (hp x ba) (hq z ba) h;have e3:=b1L (cons_ne_nil _ _) (cons_ne_nil _ _) (λp hp'=>hp p (aF _ hp')) (λq hq'=>hq q (aF _ hq')) e2;rw[e1,e3]
theorem a8z:∀{ps qs:List Str},ps.map cd=qs.map cd->ps=qs
 |[],[],_=>rfl
 |[],_::_,h=>by cases h
 |_::_,[],h=>by cases h
 |x::r,y::t,h=>by obtain⟨e1,e2⟩:=List.cons.inj h;rw[U9 e1,a8z e2]
variable{c:Nat}
theorem a3g{ps:List Str}(hn:ps≠[])(hf:∀p∈ps,c∉cd p)(h:cd x=jn c (ps.map cd)):Txt.split x ⟨#[c]⟩=ps:=by
 have h1:=StrLaws.join_split x ⟨#[c]⟩;have h2:jn c ((Txt.split x ⟨#[c]⟩).map cd)=jn c (ps.map cd):=by rw[←a2X,h1,h]
 have h3:Txt.split x ⟨#[c]⟩≠[]:=λe=>by have:=PyProof.Rows.split_pos x ⟨#[c]⟩;rw[e] at this;exact absurd this ∅
 refine a8z (b1L (λe=>h3 (List.map_eq_nil_iff.mp e)) (λe=>hn (List.map_eq_nil_iff.mp e)) (λp hp=>?_) (λp hp=>?_) h2)
 · obtain⟨q,hq,rfl⟩:=ao.mp hp;exact StrLaws.split_free x c q hq
 · obtain⟨q,hq,rfl⟩:=ao.mp hp;exact hf q hq
def c0s:Str:="0123456789"
noncomputable def a1t:Str:="abcdefghijklmnopqrstuvwxyz0123456789"
def Q2(c:Nat):Bool:=decide (c∈cd a1t)
def T5(c:Nat):Bool:=decide (c∈cd c0s)
theorem a5D(c:Nat):T5 c=true↔48<=c/\c<=57:=by unfold T5;rw[decide_eq_true_iff,show cd c0s=List.range' 48 10 from by decide+kernel,List.mem_range'_1];exact and_congr_right λ_=>Nat.lt_succ_iff
def g9(z:Str):Bool:=decide (1<=↥z)&&decide (↥z<=12)&&(cd z).all Q2
noncomputable def a2t(z:Str):Bool:=decide (1<=↥z)&&decide (↥z<=5)&&(cd z).all T5&&(decide (z="0")||!decide ((cd z).head? =some 48))
noncomputable def V5(z:Str):Option Int:=if(cd z).all T5=true then(if z=""∨5<↥z∨((cd z).head? =some 48/\1<↥z) then none else some ((NumText.digitsVal (cd z):Nat):Int)) else none
noncomputable def tl(z:Str):Str:=⟨((cd z).drop 1).toArray⟩
theorem a3P(z:Str):cd (tl z)=(cd z).drop 1:=by simp[tl,cd]
def a4p(z:Str):Bool:=if(cd z).head? =some 45 then(!decide (z="-0")&&a2t (tl z)) else a2t z
def a0K(z:Str):Option Int:=if(cd z).head? =some 45 then(match V5 (tl z) with|none=>none|some n=>if n=0 then none else some (-n)) else V5 z
theorem a9L(z:Str):z=""↔↥z=0:=by
 constructor
 · rintro rfl;rfl
 · intro h;refine U9 ?_;have:↥(cd z)=0:=by rw[u7];exact h
   rw[length_eq_zero_iff.mp this];rfl
variable{z:Str}
theorem a3X(h:(cd z).all T5=true):NumText.AllDigits (cd z):=λc hc=>(a5D c).mp (bp.mp h c hc)
theorem a4F:∀(cs:List Nat) (a:Nat),a<=cs.foldl (λbR c=>bR*10+(c-48)) a
 |[],a=>aj _
 |c::r,a=>aU nofun (a4F r (a*10+(c-48)))
theorem a7W{r:List Nat}(h:48<c):0<NumText.digitsVal (c::r):=by unfold NumText.digitsVal;rw[foldl_cons];exact aE nofun (a4F r (0*10+(c-48)))
theorem a3x:a2t z=(V5 z).isSome:=by
 unfold a2t V5
 by_cases h:(cd z).all T5=true
 · rw [az h,h]
   by_cases q:z=""∨5<↥z∨((cd z).head? =some 48/\1<↥z)
   · rw[az q];show _=false;rcases q with q|q|⟨q1,q2⟩
     · rw[a9L] at q;simp[q]
     · simp[show¬z.length<=5 by ac_nf]
     · have ne:¬z="0":=by rintro rfl;exact absurd q2 ∅
       simp[q1,ne]
   · rw [aA q];show _=true;have q1:¬↥z=0:=λe=>q (.inl ((a9L z).mpr e));have q2:↥z<=5:=aW λe=>q (.inr (.inl e));have q3:z="0"∨¬(cd z).head? =some 48:=by
      by_cases e:(cd z).head? =some 48
      · left
        have l:↥z=1:=by have k:¬1<↥z:=λe'=>q (.inr (.inr ⟨e,e'⟩));ac_nf
        refine U9 ?_;have l':↥(cd z)=1:=by rw[u7];exact l
        obtain⟨x,hx⟩:=List.length_eq_one_iff.mp l';rw[hx] at e⊢;have e':x=48:=by simpa using e
        rw[e'];decide+kernel
      · exact .inr e
     have a1:1<=↥z:=by ac_nf
     rcases q3 with q3|q3
     · rw[q3];decide+kernel
     · simp[a1,q2,q3]
 · rw[aA h];show _=false;simp[show(cd z).all T5=false from by simpa using h]
variable{n:Int}
theorem a2S (h:V5 z=some n):intText? z=some n/\↥z<=640/\0<=n/\(n=0↔z="0"):=by
 unfold V5 at h
 by_cases q:(cd z).all T5=true
 · rw[az q] at h
   by_cases p:z=""∨5<↥z∨((cd z).head? =some 48/\1<↥z)
   · rw[az p] at h;cases h
   · rw [aA p] at h;cases h;have p1:¬↥z=0:=λe=>p (.inl ((a9L z).mpr e));have p2:↥z<=5:=aW λe=>p (.inr (.inl e));have ne:cd z≠[]:=λe=>p1 (by rw[←u7,e];rfl);refine⟨PySem.intText_digits (a3X q) ne nofun,by ac_nf,Int.natCast_nonneg _,?_,?_⟩
     · intro e;have e0:NumText.digitsVal (cd z)=0:=by ac_nf
       cases hz:cd z with
       |nil=>exact absurd hz ne
       | cons c r=>
        have hc:c=48:=by
         have:=(a3X q) c (by rw[hz];exact ba);rw[hz] at e0
         by_cases k:48<c
         · exact absurd (a7W (r:=r) k) nofun
         · ac_nf
        have hl:¬1<↥z:=λe'=>p (.inr (.inr ⟨by rw[hz,hc];rfl,e'⟩));have hr:r=[]:=by
         have:↥(cd z)=↥r+1:=by rw[hz];rfl
         rw[u7] at this;exact length_eq_zero_iff.mp nofun
        refine U9 ?_;rw[hz,hc,hr];decide+kernel
     · rintro rfl;decide+kernel
 · rw[aA q] at h;cases h
theorem a6g:a4p z=(a0K z).isSome:=by
 unfold a4p a0K
 by_cases h:(cd z).head? =some 45
 · rw [az h,az h,a3x];have hz:(z="-0")↔tl z="0":=by
    constructor
    · rintro rfl;decide+kernel
    · intro e;refine U9 ?_;have e1:(cd z).drop 1=cd "0":=by rw[←a3P,e]
      cases hc:cd z with
      |nil=>rw[hc] at h;cases h
      |cons c r=>
       rw[hc] at h e1;have eY:c=45:=by simpa using h
       have hr:r=cd "0":=e1;rw[eY,hr];decide+kernel
   cases q:V5 (tl z) with
   |none=>simp
   |some n=>
    obtain⟨_,_,_,k⟩:=a2S q
    by_cases e:n=0
    · simp[e,hz,k.mp e]
    · have k':¬tl z="0":=λz'=>e (k.mpr z');simp[e,hz,k']
 · rw[aA h,aA h];exact a3x
theorem a2M(h:a0K z=some n):intText? z=some n/\↥z<=640:=by
 unfold a0K at h
 by_cases q:(cd z).head? =some 45
 · rw [az q] at h;cases e:V5 (tl z) with
   |none=>rw[e] at h;cases h
   |some m=>
    rw[e] at h
    dsimp only at h
    by_cases m0:m=0
    · rw[az m0] at h;cases h
    · rw [aA m0] at h;cases h;cases hc:cd z with
      |nil=>rw[hc] at q;cases q
      |cons c r=>
       have eY:c=45:=by rw[hc] at q;simpa using q
       have ht:cd (tl z)=r:=by rw[a3P,hc];rfl
       unfold V5 at e
       by_cases f:(cd (tl z)).all T5=true
       · rw[az f] at e
         by_cases p:tl z=""∨5<↥(tl z)∨((cd (tl z)).head? =some 48/\1<↥(tl z))
         · rw[az p] at e;cases e
         · rw[aA p] at e;cases e;have l2:↥(tl z)<=5:=aW λk=>p (.inr (.inl k));have l3:↥z=↥(tl z)+1:=by rw[←u7 z,←u7 (tl z),ht,hc];rfl
           have ne:r≠[]:=λk=>p (.inl ((a9L _).mpr (by rw[←u7,ht,k];rfl)));refine⟨?_,by ac_nf⟩;rw[ht];exact PySem.intText_neg (by rw[←eY];exact hc) (ht▸a3X f) ne nofun
       · rw[aA f] at e;cases e
 · rw[aA q] at h;exact⟨(a2S h).1,(a2S h).2.1⟩
end L2T
namespace EV
open PySem L2
def rpB:Ss:=(.o (.iff (.cmp .isin (.v 3) (.tup (.s "/">=>.o (.s ">")))) (.ex (.mt .append (.v 2) (.o (.v 3)))>=>.o (.ex (.mt .append (.v 1) (.o (.lst .nil))))) (.o (.ex (.mt .append (.ix (.v 1) (.neg (.i 1))) (.o (.v 3)))))))
def rhB:Ss:=(.set 4 (.call 1 (.o (.v 3)))>=>.o (.iff (.cmp .gt (.bi .len (.o (.v 4))) (.i 0)) (.set 5 (.call 13 (.v 1>=>.o (.v 4)))>=>.o (.iff (.notN (.v 5)) (.o .bad) .nil)) .nil))
noncomputable def abc:Str:="abcdefghijklmnopqrstuvwxyz"
def cA:E:=(.comp (.nm 0) (.rng1 (.v 1)) 1 [3,2,1] .yes (.bin .mul (.ix (.v 2) (.v 1)) (.bin .sub (.v 3) (.v 0))))
def cS:E:=(.comp (.nm 0) (.rng1 (.v 4)) 1 [0,2] .yes (.ix (.bin .add (.v 2) (.s "0123456789")) (.bin .mod (.bin .add (.bin .div (.v 1) (.i 16224)) (.bin .mul (.i 7) (.v 0))) (.i 36))))
def cB:E:=(.comp (.nm 0) (.rng1 (.v 1)) 1 [3,2,5,6] .yes (.bin .add (.bin .add (.sl (.v 4) .no (.at (.v 3))) (.ix (.v 2) (.bin .mod (.bin .add (.v 1) (.bin .mul (.i 5) (.v 0))) (.i 26)))) (.sl (.v 4) (.at (.v 3)) .no)))
def wE:E:=(.ix (.lst (.i 0>=>.bin .mod (.bin .div (.v 5) (.i 4)) (.i 20)>=>.bin .mod (.bin .div (.v 5) (.i 4)) (.i 1000)>=>.o (.bin .mod (.bin .div (.v 5) (.i 4)) (.i 99999)))) (.bin .mod (.v 5) (.i 4)))
def wB:Ss:=(.set 5 (.call 202 (.v 0>=>.o (.bin .add (.v 4) (.i 10))))>=>.o (.ex (.mt .append (.v 3) (.cons wE .nil))))
def b0C:E:=(.ix (.lst (.s "above">=>.o (.s "below"))) (.bin .mod (.bin .div (.v 4) (.i 4)) (.i 2)))
def b9O:Ss:=(.o (.ex (.mt .append (.v 2) (.o (.tup (.ix (.ix (.v 1) (.v 3)) (.i 0)>=>.v 5>=>.call 205 (.o (.bin .div (.v 4) (.i 8)))>=>.o (.call 205 (.o (.bin .div (.v 4) (.i 8000))))))))))
def mkB:Ss:=(.set 4 (.call 202 (.v 0>=>.o (.bin .add (.v 3) (.i 40))))>=>.o (.iff (.cmp .eq (.bin .mod (.v 4) (.i 4)) (.i 1)) (.set 5 b0C>=>b9O) .nil))
def b0W:Ss:=(.o (.iff (.cmp .gt (.bin .mod (.bin .div (.v 4) (.i 2)) (.i 3)) (.i 0)) (.o (.ex (.mt .append (.v 2) (.o (.tup (.ix (.ix (.v 1) (.v 3)) (.i 0)>=>.v 5>=>.o (.call 205 (.o (.bin .div (.v 4) (.i 6)))))))))) .nil))
def ptB:Ss:=(.set 4 (.call 202 (.v 0>=>.o (.bin .add (.v 3) (.i 70))))>=>.o (.for (.nm 5) (.seq (.sl (.lst (.s "above">=>.o (.s "below"))) (.at (.bin .mod (.v 4) (.i 2))) .no)) b0W))
noncomputable def jnD:List (D×D):=[((.str "both"),(.int (4))),((.str "back"),(.int (2))),((.str "none"),(.int (1))),((.str "clear"),(.int (1)))]
noncomputable def jnE:E:=(.lst (.s "both">=>.s "back">=>.s "none">=>.s "both">=>.s "clear">=>.o (.s "both")))
noncomputable def wyE:E:=(.lst (.s "left">=>.s "right">=>.o (.s "either")))
def fcE:E:=(.comp (.nm 0) (.rng1 (.v 8)) 1 [6,1] .yes (.ix (.ix (.v 2) (.bin .mod (.bin .div (.v 1) (.bin .add (.bin .mul (.bin .mul (.v 0) (.v 0)) (.i 31)) (.i 7))) (.bi .len (.o (.v 2))))) (.i 0)))
def lB5:Ss:=(.o (.ex (.mt .append (.v 4) (.o (.tup (.ix (.v 3) (.v 5)>=>.v 7>=>.ix wyE (.bin .mod (.bin .div (.v 6) (.i 6)) (.i 3))>=>.o (.v 9)))))))
def lB4:Ss:=(.set 9 (.bi .tuple (.cons fcE .nil))>=>lB5)
def lB3:Ss:=(.set 8 (.ix (.dlit jnD) (.v 7))>=>lB4)
def lB:Ss:=(.set 6 (.call 202 (.v 0>=>.o (.bin .add (.v 5) (.i 100))))>=>.set 7 (.ix jnE (.bin .mod (.v 6) (.i 6)))>=>lB3)
def smE:E:=(.comp (.nm 0) (.rng1 (.bin .add (.i 1) (.bin .mod (.v 6) (.i 5)))) 1 [6,1] .yes (.ix (.ix (.v 2) (.bin .mod (.bin .div (.v 1) (.bin .add (.bin .mul (.v 0) (.i 13)) (.i 5))) (.bi .len (.o (.v 2))))) (.i 0)))
def kB:Ss:=(.set 6 (.call 202 (.v 0>=>.o (.bin .add (.v 4) (.i 130))))>=>.set 7 smE>=>.o (.ex (.mt .append (.v 3) (.o (.tup (.v 5>=>.o (.bi .tuple (.o (.v 7)))))))))
def iA:Ss:=(.o (.ex (.mt .append (.v 5) (.o (.bin .add (.s "@") (.ix (.ix (.v 4) (.bin .mod (.bin .div (.v 7) (.i 3)) (.bi .len (.o (.v 4))))) (.i 0)))))))
def iC:Ss:=(.set 8 (.ix (.ix (.v 3) (.bin .mod (.bin .div (.v 7) (.i 3)) (.bi .len (.o (.v 3))))) (.i 3))>=>.o (.ex (.mt .append (.v 5) (.o (.ix (.v 8) (.bin .mod (.bin .div (.v 7) (.i 50)) (.bi .len (.o (.v 8)))))))))
def iD:Ss:=(.o (.ex (.mt .append (.v 5) (.o (.ix (.ix (.v 2) (.bin .mod (.bin .div (.v 7) (.i 3)) (.bi .len (.o (.v 2))))) (.i 0))))))
def iB:Ss:=(.set 7 (.bin .div (.v 0) (.bin .add (.bin .mul (.bin .mul (.v 6) (.v 6)) (.i 17)) (.i 3)))>=>.o (.iff (.cmp .eq (.bin .mod (.v 7) (.i 3)) (.i 0)) iA (.o (.iff (.cmp .eq (.bin .mod (.v 7) (.i 3)) (.i 1)) iC iD))))
noncomputable def e6L:E:=(.lst (.i 0>=>.i 0>=>.i 0>=>.i 1>=>.i 2>=>.o (.i 3)))
noncomputable def e7L:E:=(.lst (.i 1>=>.i 2>=>.i 1>=>.i 2>=>.i 3>=>.i 4>=>.o (.i 1)))
def e5L:E:=(.lst (.i 1>=>.i 1>=>.i 1>=>.i 2>=>.o (.bin .add (.i 2) (.bi .int (.o (.bin .eq (.v 7) (.i 0)))))))
def tdE:E:=(.comp (.nm 0) (.rng1 (.v 15)) 1 [9,2] .yes (.ix (.ix (.v 2) (.bin .mod (.bin .div (.v 1) (.bin .add (.bin .mul (.v 0) (.i 7)) (.i 3))) (.bi .len (.o (.v 2))))) (.i 0)))
def rB7:Ss:=(.o (.ex (.mt .append (.v 6) (.o (.tup (.v 8>=>.ix (.ix (.v 5) (.bin .mod (.bin .div (.v 9) (.i 1260)) (.bi .len (.o (.v 5))))) (.i 0)>=>.v 12>=>.v 13>=>.v 14>=>.o (.v 16)))))))
def rB6:Ss:=(.set 15 (.ix e5L (.bin .mod (.bin .div (.v 9) (.i 252)) (.i 5)))>=>.set 16 (.bi .tuple (.cons tdE .nil))>=>rB7)
def rB5:Ss:=(.set 14 (.call 210 (.bin .add (.bin .div (.v 10) (.i 101)) (.i 3)>=>.ix (.v 11) (.i 2)>=>.v 2>=>.v 3>=>.o (.v 4)))>=>rB6)
def rB4:Ss:=(.set 13 (.call 210 (.bin .add (.bin .div (.v 10) (.i 11)) (.bin .mul (.i 5) (.v 7))>=>.ix (.v 11) (.i 1)>=>.v 2>=>.v 3>=>.o (.v 4)))>=>rB5)
def rB3:Ss:=(.set 12 (.call 210 (.v 10>=>.ix (.v 11) (.i 0)>=>.v 2>=>.v 3>=>.o (.v 4)))>=>rB4)
def szE:E:=(.lst (.ix e6L (.bin .mod (.v 9) (.i 6))>=>.ix e7L (.bin .mod (.bin .div (.v 9) (.i 6)) (.i 7))>=>.o (.ix e6L (.bin .mod (.bin .div (.v 9) (.i 42)) (.i 6)))))
def rB:Ss:=(.set 9 (.call 202 (.v 0>=>.o (.bin .add (.v 7) (.i 160))))>=>.set 10 (.call 202 (.v 0>=>.o (.bin .add (.v 7) (.i 190))))>=>.set 11 szE>=>rB3)
def feE:E:=(.comp (.tp (.nm 0>=>.nm 1>=>.nil)) (.enum (.call 203 (.bin .div (.v 6) (.i 3)>=>.o (.bin .add (.i 1) (.bin .mod (.v 6) (.i 3)))))) 2 [6] .yes (.tup (.v 1>=>.o (.bin .gt (.bin .mod (.bin .div (.v 2) (.bin .add (.v 0) (.i 5))) (.i 4)) (.i 0)))))
def gpE:E:=(.comp (.tp (.nm 0>=>.nm 1>=>.nil)) (.enum (.v 4)) 2 [6] (.cmp .eq (.bin .mod (.bin .div (.v 2) (.bin .add (.bin .mul (.i 7) (.v 0)) (.i 9))) (.i 4)) (.i 0)) (.ix (.v 1) (.i 0)))
def hB4:Ss:=(.set 9 gpE>=>.set 10 (.call 206 (.v 2>=>.o (.v 3)))>=>.set 11 (.call 207 (.v 2>=>.o (.v 3)))>=>.o (.ret (.tup (.v 3>=>.v 10>=>.v 11>=>.v 4>=>.v 9>=>.v 5>=>.v 7>=>.o (.v 8)))))
def hB3:Ss:=(.set 7 feE>=>.set 8 (.call 211 (.call 201 (.v 0>=>.o (.i 3))>=>.v 1>=>.v 3>=>.v 4>=>.v 5>=>.o (.v 7)))>=>hB4)
def hB2:Ss:=(.set 4 (.call 208 (.call 201 (.v 0>=>.o (.i 1))>=>.o (.v 3)))>=>.set 5 (.call 209 (.call 201 (.v 0>=>.o (.i 2))>=>.o (.v 3)))>=>.set 6 (.call 202 (.call 201 (.v 0>=>.o (.i 2))>=>.o (.i 5)))>=>hB3)
def b4U:E:=(.bin .add (.bin .add (.bin .add (.s "shape ") (.v 0)) (.s " ")) (.bi .str (.o (.v 1))))
def c0k:E:=(.comp (.tp (.nm 0>=>.nm 1>=>.nil)) (.seq (.ix (.v 0) (.i 0))) 2 [] .yes b4U)
def b4W:Ss:=(.set 6 (.bin .add (.bin .add (.call 213 (.o (.v 4))) (.s " ")) (.call 213 (.o (.v 5))))>=>.o (.ex (.mt .append (.v 2) (.o (.bin .add (.bin .add (.bin .add (.bin .add (.bin .add (.s "mark ") (.v 1)) (.s " ")) (.v 3)) (.s " ")) (.v 6))))))
def b7P:E:=(.bin .add (.bin .add (.bin .add (.bin .add (.bin .add (.s "point ") (.v 0)) (.s " ")) (.v 1)) (.s " ")) (.call 213 (.o (.v 2))))
def c0j:E:=(.comp (.tp (.nm 0>=>.nm 1>=>.nm 2>=>.nil)) (.seq (.ix (.v 0) (.i 2))) 3 [] .yes b7P)
def c0e:E:=(.bin .add (.lst (.s "letter">=>.v 1>=>.v 7>=>.o (.v 8))) (.bi .list (.o (.v 9))))
def b4V:Ss:=(.o (.ex (.mt .append (.v 2) (.o (.mt .join (.s " ") (.cons c0e .nil))))))
def c0i:E:=(.comp (.nm 0) (.seq (.ix (.v 0) (.i 4))) 1 [] .yes (.bin .add (.s "gap ") (.v 0)))
def b7N:E:=(.bin .add (.lst (.s "class">=>.o (.v 0))) (.bi .list (.o (.v 1))))
def c0h:E:=(.comp (.tp (.nm 0>=>.nm 1>=>.nil)) (.seq (.ix (.v 0) (.i 5))) 2 [] .yes (.mt .join (.s " ") (.cons b7N .nil)))
def b7O:E:=(.bin .add (.bin .add (.bin .add (.s "feature ") (.v 0)) (.s " ")) (.ix (.lst (.s "off">=>.o (.s "on"))) (.bi .int (.o (.v 1)))))
def c0g:E:=(.comp (.tp (.nm 0>=>.nm 1>=>.nil)) (.seq (.ix (.v 0) (.i 6))) 2 [] .yes b7O)
noncomputable def c0f:E:=(.comp (.nm 0) (.seq (.ix (.v 0) (.i 7))) 1 [] .yes (.call 214 (.o (.v 0))))
noncomputable def htP(a b c d:Nat):Pat:=.tp (.nm a>=>.nm b>=>.nm c>=>.nm d>=>.nil)
noncomputable def foJ:E:=(.comp (.nm 0) (.seq (.v 1)) 1 [0] .yes (.ix (.ix (.fld (.v 1) "letters") (.v 0)) (.i 0)))
noncomputable def foD(i:Int):E:=(.bi .dict (.o (.comp (.nm 0) (.seq (.v 3)) 1 [] .yes (.tup (.ix (.v 0) (.k (.int i))>=>.o (.k (.bl true)))))))
def foB:Ss:=(.o (.ex (.mt .append (.v 6) (.o (.call 37 (.ix (.ix (.fld (.v 0) "letters") (.v 2)) (.i 2)>=>.bin .isin (.v 7) (.v 5)>=>.o (.bin .isin (.v 7) (.v 4))))))))
def onB:Ss:=(.o (.iff (.an (.cmp .eq (.ix (.v 5) (.i 0)) (.v 1)) (.chn .le .le (.ix (.v 5) (.i 1)) (.v 3) (.ix (.v 5) (.i 2)))) (.o (.set 4 (.ix (.v 5) (.i 3)))) .nil))
def cfB:Ss:=(.o (.iff (.cmp .notin (.ix (.v 2) (.i 0)) (.fld (.v 0) "features")) (.o .bad) .nil))
def hoB:Ss:=(.o (.iff (.cmp .gt (.bi .len (.o (.ix (.v 3) (.i 1)))) (.i 0)) (.ex (.mt .append (.v 1) (.o (.ix (.ix (.v 3) (.i 1)) (.i 0))))>=>.o (.set 2 (.ix (.ix (.v 3) (.i 1)) (.neg (.i 1))))) (.o (.ex (.mt .append (.v 1) (.o (.v 2)))))))
def tcB:Ss:=(.o (.set 2 (.bin .add (.v 2) (.ix (.v 3) (.i 1)))))
noncomputable def tcE:E:=(.comp (.nm 0) (.seq (.sl (.v 0) (.at (.i 1)) .no)) 1 [] .yes (.tup (.v 0>=>.o (.tup .nil))))
noncomputable def afB:Ss:=(.o (.iff (.nt (.val (.call 38 (.v 0>=>.v 3>=>.o (.ix (.v 4) (.i 0)))))) (.o (.ret (.k (.bl false)))) .nil))
def dnT:T:=(.cmp .lt (.v 7) (.bi .len (.o (.v 2))))
def b8j:Ss:=(.ex (.mt .extend (.v 4) (.o (.call 43 (.ix (.v 1) (.i 5)>=>.o (.sl (.v 2) (.at (.v 7)) (.at (.v 9)))))))>=>.set 7 (.v 9)>=>.o (.set 8 (.bin .add (.v 8) (.i 1))))
def b8i:Ss:=(.ex (.mt .append (.v 4) (.o (.ix (.v 2) (.v 7))))>=>.o (.set 7 (.bin .add (.v 7) (.i 1))))
def dnB:Ss:=(.set 9 (.bin .add (.v 7) (.bi .len (.o (.ix (.v 1) (.i 3)))))>=>.set 10 (.an (.bin .isin (.ix (.ix (.v 2) (.v 7)) (.i 0)) (.v 6)) (.call 41 (.v 0>=>.v 1>=>.v 4>=>.v 2>=>.o (.v 7))))>=>.o (.iff (.an (.val (.v 10)) (.val (.call 47 (.v 0>=>.ix (.v 1) (.i 1)>=>.v 3>=>.o (.sl (.v 5) (.at (.v 7)) (.at (.v 9))))))) b8j b8i))
noncomputable def frE(a:E):E:=(.comp (.tp (.nm 0>=>.nm 1>=>.nil)) (.enum a) 2 [] .yes (.tup (.v 1>=>.o (.tup (.o (.v 0))))))
noncomputable def shB:Ss:=(.set 6 (.call 40 (.v 0>=>.v 5>=>.v 3>=>.o (.v 2)))>=>.set 3 (.ix (.v 6) (.i 0))>=>.o (.ex (.mt .append (.v 4) (.o (.ix (.v 6) (.i 1))))))
def stB:Ss:=(.set 5 (.call 202 (.v 0>=>.o (.bin .add (.v 4) (.i 300))))>=>.set 6 (.ix (.lst (.bin .mod (.bin .div (.v 5) (.i 7)) (.bin .add (.v 2) (.i 1))>=>.o (.call 218 (.bin .div (.v 5) (.i 7)>=>.o (.v 2))))) (.bin .mod (.v 5) (.i 2)))>=>.set 7 (.ix (.lst (.bin .add (.v 6) (.bin .mod (.bin .div (.v 5) (.i 11)) (.i 7))>=>.o (.call 218 (.bin .div (.v 5) (.i 13)>=>.o (.v 2))))) (.bin .mod (.bin .div (.v 5) (.i 2)) (.i 2)))>=>.o (.ex (.mt .append (.v 3) (.o (.tup (.ix (.ix (.v 1) (.bin .mod (.bin .div (.v 5) (.i 5)) (.bi .len (.o (.v 1))))) (.i 0)>=>.v 6>=>.v 7>=>.o (.bin .eq (.bin .mod (.bin .div (.v 5) (.i 3)) (.i 2)) (.i 0))))))))
def icB:Ss:=(.iff (.orr (.nt (.val (.ins 3 (.v 1)))) (.orr (.cmp .ne (.bi .len (.o (.v 1))) (.i 2)) (.nt (.val (.ins 4 (.ix (.v 1) (.i 0))))))) (.o (.ret (.k (.bl false)))) .nil>=>.o (.iff (.orr (.nt (.val (.ins 3 (.ix (.v 1) (.i 1))))) (.nt (.val (.bi .all (.o (.comp (.nm 0) (.seq (.ix (.v 1) (.i 1))) 1 [] .yes (.call 217 (.o (.v 0))))))))) (.o (.ret (.k (.bl false)))) .nil))
def B6:Fn:=⟨2,4,1,(.o (.for (.tp (.nm 2>=>.nm 3>=>.nil)) (.enum (.v 1)) (.o (.iff (.cmp .notin (.v 3) (.fld (.v 0) "letters")) (.o .bad) .nil))))⟩
def N3:Fn:=⟨2,8,2,(.ex (.call 33 (.v 0>=>.o (.v 1)))>=>.set 3 (.call 35 (.cons foJ .nil))>=>.set 4 (foD 0)>=>.set 5 (foD 1)>=>.set 6 (.lst .nil)>=>.for (.tp (.nm 7>=>.nm 2>=>.nil)) (.enum (.v 1)) foB>=>.o (.ret (.v 6)))⟩
def C0:Fn:=⟨1,2,2,(.set 1 (.comp (.tp (.nm 0>=>.nm 1>=>.nil)) (.enum (.v 0)) 2 [] (.cmp .ne (.v 1) (.s "clear")) (.v 0))>=>.o (.ret (.comp (.nm 0) (.zipn (.v 1) (.sl (.v 1) (.at (.i 1)) .no)) 1 [0] (.val (.call 36 (.ix (.v 1) (.ix (.v 0) (.i 0))>=>.o (.ix (.v 1) (.ix (.v 0) (.i 1)))))) (.v 0))))⟩
def C9:Fn:=⟨2,2,1,(.o (.ret (.an (.bin .eq (.v 0) (.s "both")) (.gin false (.v 1) [(.str "both"),(.str "back")]))))⟩
noncomputable def E7:Fn:=⟨3,3,1,(.iff (.an (.val (.v 1)) (.val (.v 2))) (.o (.ret (.ix (.v 0) (.i 2)))) .nil>=>.iff (.val (.v 2)) (.o (.ret (.ix (.v 0) (.i 1)))) .nil>=>.iff (.val (.v 1)) (.o (.ret (.ix (.v 0) (.neg (.i 1))))) .nil>=>.o (.ret (.ix (.v 0) (.i 0))))⟩
def a1d:Fn:=⟨1,1,2,(.o (.ret (.comp (.nm 0) (.seq (.mt .split (.v 0) (.o (.s " ")))) 1 [] (.cmp .ne (.v 0) (.s "")) (.v 0))))⟩
def a2j:Fn:=⟨2,2,1,(.o (.ret (.bi .all (.o (.comp (.nm 0) (.seq (.v 0)) 1 [1] .yes (.bin .isin (.v 0) (.v 1)))))))⟩
noncomputable def a2k:Fn:=⟨1,1,1,(.o (.ret (.an (.chn .le .le (.i 1) (.bi .len (.o (.v 0))) (.i 12)) (.call 2 (.v 0>=>.o (.s "abcdefghijklmnopqrstuvwxyz0123456789"))))))⟩
def a0i:Fn:=⟨1,1,1,(.iff (.orr (.nt (.chn .le .le (.i 1) (.bi .len (.o (.v 0))) (.i 5))) (.nt (.val (.call 2 (.v 0>=>.o (.s "0123456789")))))) (.o (.ret (.k (.bl false)))) .nil>=>.o (.ret (.orr (.bin .eq (.v 0) (.s "0")) (.bin .ne (.ix (.v 0) (.i 0)) (.s "0")))))⟩
def K9:Fn:=⟨1,1,1,(.iff (.val (.mt .starts (.v 0) (.o (.s "-")))) (.o (.ret (.an (.bin .ne (.v 0) (.s "-0")) (.call 4 (.o (.sl (.v 0) (.at (.i 1)) .no)))))) .nil>=>.o (.ret (.call 4 (.o (.v 0)))))⟩
noncomputable def Q7:Fn:=⟨1,1,1,(.o (.ret (.sl (.v 0) (.at (.bi .len (.o (.s "@")))) .no)))⟩
noncomputable def Q4:Fn:=⟨1,1,1,(.o (.ret (.an (.mt .starts (.v 0) (.o (.s "@"))) (.call 3 (.o (.call 6 (.o (.v 0))))))))⟩
noncomputable def a2l:Fn:=⟨1,1,1,(.o (.ret (.orr (.call 3 (.o (.v 0))) (.call 7 (.o (.v 0))))))⟩
noncomputable def a2x:Fn:=⟨1,1,1,(.o (.ret (.bi .all (.o (.comp (.nm 0) (.seq (.v 0)) 1 [] .yes (.call 3 (.o (.v 0))))))))⟩
noncomputable def O7:Fn:=⟨1,1,1,(.o (.ret (.bi .all (.o (.comp (.nm 0) (.seq (.v 0)) 1 [] .yes (.call 5 (.o (.v 0))))))))⟩
noncomputable def a2y:Fn:=⟨1,1,1,(.o (.ret (.bi .all (.o (.comp (.nm 0) (.seq (.v 0)) 1 [] .yes (.call 8 (.o (.v 0))))))))⟩
def a1h:Fn:=⟨3,3,1,(.o (.ret (.bin .isin (.v 2) (.call 39 (.v 0>=>.o (.v 1))))))⟩
noncomputable def z8:Fn:=⟨2,2,1,(.iff (.val (.mt .starts (.v 1) (.o (.s "@")))) (.o (.ret (.dget (.fld (.v 0) "classes") (.call 6 (.o (.v 1))) (.tup .nil)))) .nil>=>.o (.ret (.tup (.o (.v 1)))))⟩
def a7S:Fn:=⟨4,11,0,(.ex (.call 45 (.v 0>=>.o (.v 3)))>=>.set 4 (.lst .nil)>=>.set 5 (.call 44 (.o (.v 2)))>=>.set 6 (.call 39 (.v 0>=>.o (.ix (.ix (.v 1) (.i 3)) (.i 0))))>=>.set 7 (.i 0)>=>.set 8 (.i 0)>=>.whl dnT dnB>=>.o (.ret (.tup (.v 4>=>.o (.v 8)))))⟩
def T6:Fn:=⟨5,6,1,(.set 5 (.bin .add (.v 4) (.bi .len (.o (.ix (.v 1) (.i 3)))))>=>.iff (.nt (.val (.call 42 (.v 0>=>.ix (.v 1) (.i 3)>=>.o (.sl (.v 3) (.at (.v 4)) (.at (.v 5))))))) (.o (.ret (.k (.bl false)))) .nil>=>.iff (.nt (.val (.call 42 (.v 0>=>.ix (.v 1) (.i 2)>=>.o (.sl (.v 2) (.at (.bi .max (.i 0>=>.o (.bin .sub (.bi .len (.o (.v 2))) (.bi .len (.o (.ix (.v 1) (.i 2)))))))) .no))))) (.o (.ret (.k (.bl false)))) .nil>=>.o (.ret (.call 42 (.v 0>=>.ix (.v 1) (.i 4)>=>.o (.sl (.v 3) (.at (.v 5)) (.at (.bin .add (.v 5) (.bi .len (.o (.ix (.v 1) (.i 4)))))))))))⟩
def V7:Fn:=⟨3,5,1,(.iff (.cmp .ne (.bi .len (.o (.v 1))) (.bi .len (.o (.v 2)))) (.o (.ret (.k (.bl false)))) .nil>=>.for (.tp (.nm 3>=>.nm 4>=>.nil)) (.zip (.v 1) (.v 2)) afB>=>.o (.ret (.k (.bl true))))⟩
def R4:Fn:=⟨2,4,2,(.set 2 (.tup .nil)>=>.for (.nm 3) (.seq (.v 1)) tcB>=>.o (.ret (.bin .add (.lst (.o (.tup (.ix (.v 0) (.i 0)>=>.o (.v 2))))) tcE)))⟩
def X3:Fn:=⟨1,4,2,(.set 1 (.lst .nil)>=>.set 2 (.k .non)>=>.for (.nm 3) (.seq (.v 0)) hoB>=>.o (.ret (.v 1)))⟩
def J5:Fn:=⟨2,3,1,(.o (.for (.nm 2) (.seq (.v 1)) cfB))⟩
def a1K:Fn:=⟨4,6,1,(.set 4 (.ix (.fld (.v 0) "features") (.v 1))>=>.for (.nm 5) (.seq (.v 2)) onB>=>.o (.ret (.v 4)))⟩
noncomputable def L7:Fn:=⟨4,4,1,(.o (.ret (.bi .all (.o (.comp (.nm 0) (.seq (.v 3)) 1 [1,0,2] .yes (.call 46 (.v 2>=>.v 1>=>.v 3>=>.o (.v 0))))))))⟩
def a0g:Fn:=⟨3,7,0,(.set 3 (.call 49 (.o (.call 34 (.v 0>=>.o (.v 1)))))>=>.ex (.call 45 (.v 0>=>.o (.v 2)))>=>.set 4 (.lst .nil)>=>.for (.nm 5) (.seq (.fld (.v 0) "rules")) shB>=>.o (.ret (.tup (.v 3>=>.o (.v 4)))))⟩
noncomputable def F8:Fn:=⟨1,1,2,(.o (.ret (.comp (.tp (.nm 0>=>.nm 1>=>.nil)) (.enum (.v 0)) 2 [] .yes (.tup (.v 1>=>.o (.tup (.o (.v 0))))))))⟩
noncomputable def O8:Fn:=⟨1,1,0,(.sfl (.v 0) "shapes" .dnew>=>.sfl (.v 0) "marks" .dnew>=>.sfl (.v 0) "points" .dnew>=>.sfl (.v 0) "letters" .dnew>=>.sfl (.v 0) "gaps" (.lst .nil)>=>.sfl (.v 0) "classes" .dnew>=>.sfl (.v 0) "features" .dnew>=>.o (.sfl (.v 0) "rules" (.lst .nil)))⟩
def a0h:Fn:=⟨1,6,0,(.set 1 (.mk 6 .nil)>=>.for (.tp (.nm 2>=>.nm 3>=>.nil)) (.enum (.mt .split (.v 0) (.o (.s "\n")))) (.set 4 (.call 1 (.o (.v 3)))>=>.o (.iff (.cmp .gt (.bi .len (.o (.v 4))) (.i 0)) (.set 5 (.call 13 (.v 1>=>.o (.v 4)))>=>.o (.iff (.notN (.v 5)) (.o .bad) .nil)) .nil))>=>.o (.ret (.v 1)))⟩
def E6:Fn:=⟨2,3,0,(.set 2 (.ix (.v 1) (.i 0))>=>.iff (.cmp .eq (.v 2) (.s "shape")) (.o (.ret (.call 17 (.v 0>=>.o (.v 1))))) .nil>=>.iff (.cmp .eq (.v 2) (.s "mark")) (.o (.ret (.call 19 (.v 0>=>.o (.v 1))))) .nil>=>.iff (.cmp .eq (.v 2) (.s "point")) (.o (.ret (.call 20 (.v 0>=>.o (.v 1))))) .nil>=>.iff (.cmp .eq (.v 2) (.s "letter")) (.o (.ret (.call 22 (.v 0>=>.o (.v 1))))) .nil>=>.iff (.cmp .eq (.v 2) (.s "gap")) (.o (.ret (.call 23 (.v 0>=>.o (.v 1))))) .nil>=>.iff (.cmp .eq (.v 2) (.s "class")) (.o (.ret (.call 24 (.v 0>=>.o (.v 1))))) .nil>=>.iff (.cmp .eq (.v 2) (.s "feature")) (.o (.ret (.call 25 (.v 0>=>.o (.v 1))))) .nil>=>.iff (.cmp .eq (.v 2) (.s "rule")) (.o (.ret (.call 26 (.v 0>=>.o (.v 1))))) .nil>=>.o (.ret (.s "row")))⟩
noncomputable def a0k:Fn:=⟨3,3,1,(.iff (.val (.v 0)) (.o (.ret (.s "twice"))) .nil>=>.iff (.nt (.val (.v 1))) (.o (.ret (.s "name"))) .nil>=>.iff (.val (.v 2)) (.o (.ret (.s "many"))) .nil>=>.o (.ret (.k .non)))⟩
def X4:Fn:=⟨2,2,1,(.o (.ret (.bi .all (.o (.comp (.nm 0) (.seq (.v 1)) 1 [0] .yes (.bin .isin (.v 0) (.fld (.v 1) "shapes")))))))⟩
noncomputable def a2i:Fn:=⟨1,1,1,(.o (.ret (.tup (.bi .int (.o (.ix (.v 0) (.i 0)))>=>.o (.bi .int (.o (.ix (.v 0) (.i 1))))))))⟩
def W9:Fn:=⟨2,4,0,(.iff (.orr (.cmp .ne (.bi .len (.o (.v 1))) (.i 3)) (.orr (.nt (.val (.call 3 (.o (.ix (.v 1) (.i 1)))))) (.nt (.val (.call 4 (.o (.ix (.v 1) (.i 2)))))))) (.o (.ret (.s "row"))) .nil>=>.set 2 (.ix (.v 1) (.i 1))>=>.set 3 (.call 14 (.bin .isin (.v 2) (.fld (.v 0) "shapes")>=>.k (.bl true)>=>.o (.bin .ge (.bi .len (.o (.fld (.v 0) "shapes"))) (.i 60))))>=>.iff (.isN (.v 3)) (.o (.six (.fld (.v 0) "shapes") (.v 2) (.bi .int (.o (.ix (.v 1) (.i 2)))))) .nil>=>.o (.ret (.v 3)))⟩
def Q5:Fn:=⟨2,2,1,(.iff (.orr (.cmp .ne (.bi .len (.o (.v 0))) (.bin .add (.i 3) (.v 1))) (.nt (.val (.call 3 (.o (.ix (.v 0) (.i 1))))))) (.o (.ret (.k (.bl false)))) .nil>=>.o (.ret (.an (.gin false (.ix (.v 0) (.i 2)) [(.str "above"),(.str "below")]) (.call 10 (.o (.sl (.v 0) (.at (.i 3)) .no))))))⟩
def a0f:Fn:=⟨2,4,0,(.iff (.nt (.val (.call 18 (.v 1>=>.o (.i 4))))) (.o (.ret (.s "row"))) .nil>=>.set 2 (.ix (.v 1) (.i 1))>=>.set 3 (.call 14 (.bin .isin (.v 2) (.fld (.v 0) "marks")>=>.bin .isin (.v 2) (.fld (.v 0) "shapes")>=>.o (.k (.bl false))))>=>.iff (.isN (.v 3)) (.o (.six (.fld (.v 0) "marks") (.v 2) (.tup (.ix (.v 1) (.i 2)>=>.call 16 (.o (.sl (.v 1) (.at (.i 3)) (.at (.i 5))))>=>.o (.call 16 (.o (.sl (.v 1) (.at (.i 5)) (.at (.i 7))))))))) .nil>=>.o (.ret (.v 3)))⟩
def X0:Fn:=⟨2,5,0,(.iff (.nt (.val (.call 18 (.v 1>=>.o (.i 2))))) (.o (.ret (.s "row"))) .nil>=>.set 2 (.ix (.v 1) (.i 1))>=>.set 3 (.tup (.v 2>=>.o (.ix (.v 1) (.i 2))))>=>.set 4 (.call 14 (.bin .isin (.v 3) (.fld (.v 0) "points")>=>.bin .isin (.v 2) (.fld (.v 0) "shapes")>=>.o (.k (.bl false))))>=>.iff (.isN (.v 4)) (.o (.six (.fld (.v 0) "points") (.v 3) (.call 16 (.o (.sl (.v 1) (.at (.i 3)) (.at (.i 5))))))) .nil>=>.o (.ret (.v 4)))⟩
def L8:Fn:=⟨1,2,1,(.iff (.orr (.cmp .lt (.bi .len (.o (.v 0))) (.i 4)) (.nt (.val (.call 3 (.o (.ix (.v 0) (.i 1))))))) (.o (.ret (.k (.bl false)))) .nil>=>.iff (.orr (.val (.gdin true (.ix (.v 0) (.i 2)) [((.str "none"),(.int (1))),((.str "clear"),(.int (1))),((.str "back"),(.int (2))),((.str "both"),(.int (4)))])) (.val (.gin true (.ix (.v 0) (.i 3)) [(.str "left"),(.str "right"),(.str "either")]))) (.o (.ret (.k (.bl false)))) .nil>=>.set 1 (.sl (.v 0) (.at (.i 4)) .no)>=>.o (.ret (.an (.bin .eq (.bi .len (.o (.v 1))) (.gdix (.ix (.v 0) (.i 2)) [((.str "none"),(.int (1))),((.str "clear"),(.int (1))),((.str "back"),(.int (2))),((.str "both"),(.int (4)))])) (.call 9 (.o (.v 1))))))⟩
def U7:Fn:=⟨2,5,0,(.iff (.nt (.val (.call 21 (.o (.v 1))))) (.o (.ret (.s "row"))) .nil>=>.set 2 (.ix (.v 1) (.i 1))>=>.set 3 (.sl (.v 1) (.at (.i 4)) .no)>=>.set 4 (.call 14 (.bin .isin (.v 2) (.fld (.v 0) "letters")>=>.call 15 (.v 0>=>.o (.v 3))>=>.o (.bin .ge (.bi .len (.o (.fld (.v 0) "letters"))) (.i 24))))>=>.iff (.isN (.v 4)) (.o (.six (.fld (.v 0) "letters") (.v 2) (.tup (.ix (.v 1) (.i 2)>=>.ix (.v 1) (.i 3)>=>.o (.bi .tuple (.o (.v 3))))))) .nil>=>.o (.ret (.v 4)))⟩
def a1e:Fn:=⟨2,4,0,(.iff (.orr (.cmp .ne (.bi .len (.o (.v 1))) (.i 2)) (.nt (.val (.call 3 (.o (.ix (.v 1) (.i 1))))))) (.o (.ret (.s "row"))) .nil>=>.set 2 (.ix (.v 1) (.i 1))>=>.set 3 (.call 14 (.bin .isin (.v 2) (.fld (.v 0) "gaps")>=>.bin .isin (.v 2) (.fld (.v 0) "letters")>=>.o (.k (.bl false))))>=>.iff (.isN (.v 3)) (.o (.ex (.mt .append (.fld (.v 0) "gaps") (.o (.v 2))))) .nil>=>.o (.ret (.v 3)))⟩
def X1:Fn:=⟨2,5,0,(.set 2 (.sl (.v 1) (.at (.i 2)) .no)>=>.iff (.orr (.nt (.chn .le .le (.i 1) (.bi .len (.o (.v 2))) (.i 20))) (.nt (.val (.call 9 (.o (.sl (.v 1) (.at (.i 1)) .no)))))) (.o (.ret (.s "row"))) .nil>=>.set 3 (.ix (.v 1) (.i 1))>=>.set 4 (.call 14 (.bin .isin (.v 3) (.fld (.v 0) "classes")>=>.call 15 (.v 0>=>.o (.v 2))>=>.o (.bin .ge (.bi .len (.o (.fld (.v 0) "classes"))) (.i 20))))>=>.iff (.isN (.v 4)) (.o (.six (.fld (.v 0) "classes") (.v 3) (.bi .tuple (.o (.v 2))))) .nil>=>.o (.ret (.v 4)))⟩
def S8:Fn:=⟨2,4,0,(.iff (.orr (.cmp .ne (.bi .len (.o (.v 1))) (.i 3)) (.orr (.nt (.val (.call 3 (.o (.ix (.v 1) (.i 1)))))) (.val (.gin true (.ix (.v 1) (.i 2)) [(.str "on"),(.str "off")])))) (.o (.ret (.s "row"))) .nil>=>.set 2 (.ix (.v 1) (.i 1))>=>.set 3 (.call 14 (.bin .isin (.v 2) (.fld (.v 0) "features")>=>.k (.bl true)>=>.o (.bin .ge (.bi .len (.o (.fld (.v 0) "features"))) (.i 10))))>=>.iff (.isN (.v 3)) (.o (.six (.fld (.v 0) "features") (.v 2) (.bin .eq (.ix (.v 1) (.i 2)) (.s "on")))) .nil>=>.o (.ret (.v 3)))⟩
def a0e:Fn:=⟨2,8,0,(.iff (.nt (.val (.call 27 (.o (.v 1))))) (.o (.ret (.s "row"))) .nil>=>.set 2 (.ix (.v 1) (.i 1))>=>.set 3 (.ix (.v 1) (.i 2))>=>.set 4 (.call 28 (.o (.v 1)))>=>.set 5 (.bin .add (.bin .add (.ix (.v 4) (.i 0)) (.ix (.v 4) (.i 1))) (.ix (.v 4) (.i 2)))>=>.set 6 (.an (.bin .isin (.v 3) (.fld (.v 0) "features")) (.an (.call 29 (.v 0>=>.o (.v 5))) (.call 15 (.v 0>=>.o (.ix (.v 4) (.i 3))))))>=>.set 7 (.call 14 (.call 31 (.v 0>=>.o (.v 2))>=>.v 6>=>.o (.bin .ge (.bi .len (.o (.fld (.v 0) "rules"))) (.i 30))))>=>.iff (.isN (.v 7)) (.o (.ex (.mt .append (.fld (.v 0) "rules") (.o (.tup (.v 2>=>.v 3>=>.bi .tuple (.o (.ix (.v 4) (.i 0)))>=>.bi .tuple (.o (.ix (.v 4) (.i 1)))>=>.bi .tuple (.o (.ix (.v 4) (.i 2)))>=>.o (.bi .tuple (.o (.ix (.v 4) (.i 3)))))))))) .nil>=>.o (.ret (.v 7)))⟩
def Q6:Fn:=⟨1,2,1,(.iff (.nt (.val (.call 9 (.o (.sl (.v 0) (.at (.i 1)) (.at (.i 3))))))) (.o (.ret (.k (.bl false)))) .nil>=>.set 1 (.call 28 (.o (.v 0)))>=>.iff (.orr (.isN (.v 1)) (.orr (.cmp .gt (.bi .len (.o (.ix (.v 1) (.i 0)))) (.i 3)) (.cmp .gt (.bi .len (.o (.ix (.v 1) (.i 2)))) (.i 3)))) (.o (.ret (.k (.bl false)))) .nil>=>.iff (.orr (.nt (.chn .le .le (.i 1) (.bi .len (.o (.ix (.v 1) (.i 1)))) (.i 4))) (.nt (.chn .le .le (.i 1) (.bi .len (.o (.ix (.v 1) (.i 3)))) (.i 3)))) (.o (.ret (.k (.bl false)))) .nil>=>.o (.ret (.an (.call 11 (.o (.bin .add (.bin .add (.ix (.v 1) (.i 0)) (.ix (.v 1) (.i 1))) (.ix (.v 1) (.i 2))))) (.call 9 (.o (.ix (.v 1) (.i 3)))))))⟩
def X2:Fn:=⟨1,4,0,(.set 1 (.lst (.o (.lst .nil)))>=>.set 2 (.lst .nil)>=>.for (.nm 3) (.seq (.sl (.v 0) (.at (.i 3)) .no)) (.o (.iff (.cmp .isin (.v 3) (.tup (.s "/">=>.o (.s ">")))) (.ex (.mt .append (.v 2) (.o (.v 3)))>=>.o (.ex (.mt .append (.v 1) (.o (.lst .nil))))) (.o (.ex (.mt .append (.ix (.v 1) (.neg (.i 1))) (.o (.v 3)))))))>=>.iff (.cmp .ne (.v 2) (.lst (.s "/">=>.s "/">=>.o (.s ">")))) (.o (.ret (.k .non))) .nil>=>.o (.ret (.v 1)))⟩
noncomputable def a0j:Fn:=⟨2,2,1,(.o (.ret (.bi .all (.o (.comp (.nm 0) (.seq (.v 1)) 1 [0] .yes (.call 30 (.v 1>=>.o (.v 0))))))))⟩
def a1g:Fn:=⟨2,2,1,(.iff (.val (.call 7 (.o (.v 1)))) (.o (.ret (.bin .isin (.call 6 (.o (.v 1))) (.fld (.v 0) "classes")))) .nil>=>.o (.ret (.bin .isin (.v 1) (.fld (.v 0) "shapes"))))⟩
def a1f:Fn:=⟨2,2,1,(.o (.ret (.bi .any (.o (.comp (.nm 0) (.seq (.fld (.v 0) "rules")) 1 [1] .yes (.bin .eq (.ix (.v 0) (.i 0)) (.v 1)))))))⟩
def I0:Fn:=⟨2,2,1,(.iff (.cmp .lt (.v 1) (.bi .len (.o (.v 0)))) (.o (.ret (.ix (.v 0) (.v 1)))) .nil>=>.o (.ret (.i 0)))⟩
def p8:Fn:=⟨2,2,1,(.o (.ret (.bin .mod (.bin .mul (.bin .mul (.bin .add (.bin .mod (.v 0) (.i 2305843009213693951)) (.i 1)) (.bin .add (.bin .mul (.v 1) (.v 1)) (.i 48271))) (.i 40692)) (.i 2147483399))))⟩
def o9:Fn:=⟨2,7,2,(.set 2 (.k (.str abc))>=>.set 3 (.bin .mod (.bin .div (.v 0) (.i 4)) (.i 26))>=>.iff (.an (.cmp .eq (.bin .mod (.v 0) (.i 4)) (.i 0)) (.cmp .lt (.v 1) (.i 13))) (.o (.ret cA)) .nil>=>.set 4 (.bin .mod (.bin .div (.v 0) (.i 104)) (.i 12))>=>.set 5 (.bin .mod (.bin .div (.v 0) (.i 1248)) (.bin .add (.v 4) (.i 1)))>=>.set 6 (.mt .join (.s "") (.cons cS .nil))>=>.o (.ret cB))⟩
def D8:Fn:=⟨1,6,2,(.set 1 (.call 202 (.v 0>=>.o (.i 1)))>=>.set 2 (.call 203 (.bin .div (.v 1) (.i 13)>=>.o (.bin .add (.i 4) (.bin .mod (.v 1) (.i 13)))))>=>.set 3 (.lst .nil)>=>.for (.nm 4) (.rng1 (.bi .len (.o (.v 2)))) wB>=>.o (.ret (.comp (.tp (.nm 0>=>.nm 1>=>.nil)) (.zip (.v 2) (.v 3)) 2 [] .yes (.tup (.v 0>=>.o (.v 1))))))⟩
def C1:Fn:=⟨1,1,1,(.o (.ret (.tup (.bin .sub (.bin .mod (.v 0) (.i 41)) (.i 20)>=>.o (.ix (.lst (.i 0>=>.bin .mod (.bin .div (.v 0) (.i 41)) (.i 99999)>=>.o (.neg (.bin .mod (.bin .div (.v 0) (.i 41)) (.i 99999))))) (.bin .mod (.bin .div (.v 0) (.i 7)) (.i 3)))))))⟩
def F5:Fn:=⟨2,6,2,(.set 2 (.lst .nil)>=>.for (.nm 3) (.rng1 (.bi .len (.o (.v 1)))) mkB>=>.o (.ret (.v 2)))⟩
def E1:Fn:=⟨2,6,2,(.set 2 (.lst .nil)>=>.for (.nm 3) (.rng1 (.bi .len (.o (.v 1)))) ptB>=>.o (.ret (.v 2)))⟩
def D0:Fn:=⟨2,10,2,(.set 2 (.call 202 (.v 0>=>.o (.i 2)))>=>.set 3 (.call 203 (.bin .div (.v 2) (.i 6)>=>.o (.bin .add (.i 1) (.bin .mod (.v 2) (.i 6)))))>=>.set 4 (.lst .nil)>=>.for (.nm 5) (.rng1 (.bi .len (.o (.v 3)))) lB>=>.o (.ret (.v 4)))⟩
def D1:Fn:=⟨2,8,2,(.set 2 (.call 202 (.v 0>=>.o (.i 3)))>=>.set 3 (.lst .nil)>=>.for (.tp (.nm 4>=>.nm 5>=>.nil)) (.enum (.call 203 (.bin .div (.v 2) (.i 4)>=>.o (.bin .add (.i 1) (.bin .mod (.v 2) (.i 3)))))) kB>=>.o (.ret (.v 3)))⟩
def C6:Fn:=⟨5,9,1,(.set 5 (.lst .nil)>=>.for (.nm 6) (.rng1 (.v 1)) iB>=>.o (.ret (.bi .tuple (.o (.v 5)))))⟩
def B7:Fn:=⟨6,17,2,(.set 6 (.lst .nil)>=>.for (.tp (.nm 7>=>.nm 8>=>.nil)) (.enum (.call 203 (.call 202 (.v 0>=>.o (.i 4))>=>.o (.v 1)))) rB>=>.o (.ret (.v 6)))⟩
def L9:Fn:=⟨2,12,0,(.set 2 (.call 201 (.v 0>=>.o (.i 0)))>=>.set 3 (.call 204 (.o (.v 2)))>=>hB2)⟩
def E2:Fn:=⟨1,1,1,(.o (.ret (.bin .add (.bin .add (.bi .str (.o (.ix (.v 0) (.i 0)))) (.s " ")) (.bi .str (.o (.ix (.v 0) (.i 1)))))))⟩
def D9:Fn:=⟨1,2,1,(.set 1 (.bin .add (.bin .add (.bin .add (.lst (.s "rule">=>.ix (.v 0) (.i 0)>=>.o (.ix (.v 0) (.i 1)))) (.bi .list (.o (.ix (.v 0) (.i 2))))) (.lst (.o (.s "/")))) (.bi .list (.o (.ix (.v 0) (.i 3)))))>=>.o (.ret (.mt .join (.s " ") (.o (.bin .add (.bin .add (.bin .add (.bin .add (.v 1) (.lst (.o (.s "/")))) (.bi .list (.o (.ix (.v 0) (.i 4))))) (.lst (.o (.s ">")))) (.bi .list (.o (.ix (.v 0) (.i 5)))))))))⟩
def J7:Fn:=⟨1,10,1,(.set 2 c0k>=>.for (htP 1 3 4 5) (.seq (.ix (.v 0) (.i 1))) b4W>=>.set 2 (.bin .add (.v 2) c0j)>=>.for (htP 1 7 8 9) (.seq (.ix (.v 0) (.i 3))) b4V>=>.set 2 (.bin .add (.v 2) c0i)>=>.set 2 (.bin .add (.v 2) c0h)>=>.set 2 (.bin .add (.v 2) c0g)>=>.o (.ret (.mt .join (.s "\n") (.o (.bin .add (.v 2) c0f)))))⟩
def O1:Fn:=⟨4,5,2,(.set 4 (.sl (.v 0) (.at (.v 1)) (.at (.bin .add (.v 1) (.v 2))))>=>.o (.ret (.comp (.tp (.nm 0>=>.nm 1>=>.nil)) (.enum (.v 4)) 2 [3] .yes (.ix (.ix (.v 2) (.bin .mod (.call 202 (.v 1>=>.o (.v 0))) (.bi .len (.o (.v 2))))) (.i 0)))))⟩
noncomputable def J6:Fn:=⟨1,1,1,(.o (.ret (.an (.ins 1 (.v 0)) (.nt (.ins 0 (.v 0))))))⟩
def K3:Fn:=⟨2,2,1,(.o (.ret (.ix (.lst (.bin .mod (.v 0) (.bin .add (.v 1) (.i 1))>=>.bin .sub (.bin .mod (.v 0) (.bin .add (.v 1) (.i 7))) (.i 3)>=>.bin .add (.bin .pow (.i 10) (.i 20)) (.v 0)>=>.bin .sub (.neg (.bin .pow (.i 10) (.i 20))) (.v 0)>=>.o (.bin .mod (.v 0) (.i 3)))) (.bin .mod (.bin .div (.v 0) (.i 64)) (.i 5)))))⟩
def E8:Fn:=⟨3,8,2,(.set 3 (.lst .nil)>=>.for (.nm 4) (.rng1 (.bin .mod (.v 0) (.i 6))) stB>=>.o (.ret (.v 3)))⟩
def F6:Fn:=⟨1,2,1,(.iff (.nt (.val (.ins 2 (.v 0)))) (.o (.ret (.k (.bl false)))) .nil>=>.for (.nm 1) (.seq (.v 0)) icB>=>.o (.ret (.k (.bl true))))⟩
noncomputable def lfP:Pat:=(.tp (.nm 3>=>.nm 4>=>.nm 5>=>.nm 6>=>.nil))
noncomputable def lfB:Ss:=(.o (.six (.v 2) (.v 3) (.tup (.v 4>=>.o (.v 6)))))
def lfC:E:=(.comp (.nm 0) (.rng1 (.bi .len (.o (.v 1)))) 1 [1,2] (.cmp .ne (.ix (.ix (.v 2) (.ix (.v 1) (.v 0))) (.i 0)) (.s "clear")) (.v 0))
noncomputable def lfF:E:=(.comp (.nm 0) (.seq (.v 1)) 1 [2] .yes (.ix (.ix (.ix (.v 1) (.v 0)) (.i 1)) (.i 0)))
noncomputable def lfX(e:E):E:=(.ix (.v 2) (.ix (.v 1) (.ix (.v 7) e)))
noncomputable def lfT:E:=(.tup (.s "both">=>.o (.s "back")))
def lfA:E:=(.an (.bin .gt (.v 9) (.i 0)) (.an (.bin .eq (.ix (lfX (.bin .sub (.v 9) (.i 1))) (.i 0)) (.s "both")) (.bin .isin (.v 4) lfT)))
def lfO:E:=(.an (.bin .lt (.bin .add (.v 9) (.i 1)) (.bi .len (.o (.v 7)))) (.an (.bin .eq (.v 4) (.s "both")) (.bin .isin (.ix (lfX (.bin .add (.v 9) (.i 1))) (.i 0)) lfT)))
noncomputable def lfI:E:=(.ix (.v 6) (.ix (.ix (.lst (.lst (.i 0>=>.o (.i 1))>=>.o (.lst (.i 3>=>.o (.i 2))))) (.bi .int (.o (.v 10)))) (.bi .int (.o (.v 11)))))
def lfS:S:=(.iff (.cmp .eq (.v 4) (.s "both")) (.o (.six (.v 8) (.ix (.v 7) (.v 9)) lfI)) .nil)
def lfK:S:=(.iff (.cmp .eq (.v 4) (.s "back")) (.o (.six (.v 8) (.ix (.v 7) (.v 9)) (.ix (.v 6) (.bi .int (.o (.v 10)))))) .nil)
def lfL:Ss:=(.pat (.tp (.nm 4>=>.nm 6>=>.nil)) (lfX (.v 9))>=>.set 10 lfA>=>.set 11 lfO>=>(.cons lfS (.o lfK)))
def M0:Fn:=⟨2,12,2,(.set 2 .dnew>=>.for lfP (.seq (.ix (.v 0) (.i 3))) lfB>=>.set 7 lfC>=>.set 8 lfF>=>.for (.nm 9) (.rng1 (.bi .len (.o (.v 7)))) lfL>=>.o (.ret (.v 8)))⟩
noncomputable def lwA:Ss:=(.o (.ex (.mt .append (.v 5) (.o (.tup (.v 7>=>.i 0>=>.bi .len (.o (.v 3))>=>.o (.k (.bl false))))))))
def lwC:Ss:=(.o (.set 5 (.bin .add (.v 5) (.lst (.tup (.v 7>=>.v 6>=>.bin .pow (.i 10) (.i 25)>=>.o (.k (.bl false)))>=>.o (.tup (.v 7>=>.neg (.i 5)>=>.v 6>=>.o (.k (.bl false)))))))))
def lwB:Ss:=(.o (.iff (.cmp .eq (.bin .mod (.bin .div (.v 4) (.i 3)) (.i 2)) (.i 0)) lwA lwC))
def b9Q:T:=(.orr (.nt (.val (.ins 3 (.v 10)))) (.orr (.cmp .ne (.bi .len (.o (.v 10))) (.i 2)) (.nt (.val (.call 220 (.o (.ix (.v 10) (.i 0))))))))
noncomputable def lwN:E:=(.comp (.nm 0) (.seq (.ix (.v 10) (.i 1))) 1 [] .yes (.call 217 (.o (.v 0))))
def b9P:T:=(.orr (.nt (.val (.ins 2 (.ix (.v 10) (.i 1))))) (.nt (.val (.bi .all (.o lwN)))))
def lwE:Ss:=(.set 9 (frE (.call 222 (.v 1>=>.o (.v 3))))>=>.set 10 (.call 48 (.v 2>=>.v 3>=>.o (.v 5)))>=>.iff b9Q (.o (.ret (.k (.bl false)))) .nil>=>.iff b9P (.o (.ret (.k (.bl false)))) .nil>=>.o (.ret (.bin .eq (.v 10) (.tup (.v 9>=>.o (.lst (.i 0>=>.i 0>=>.i 0>=>.o (.i 0))))))))
def a8R:Fn:=⟨1,11,0,(.set 1 (.call 212 (.v 0>=>.o (.i 4)))>=>.set 2 (.call 12 (.o (.call 215 (.o (.v 1)))))>=>.set 3 (.call 216 (.v 0>=>.i 6>=>.i 50>=>.o (.ix (.v 1) (.i 3))))>=>.set 4 (.call 202 (.call 201 (.v 0>=>.o (.i 5))>=>.o (.i 7)))>=>.set 5 (.call 219 (.v 4>=>.ix (.v 1) (.i 6)>=>.o (.bi .len (.o (.v 3)))))>=>.set 6 (.bin .mod (.bin .div (.v 4) (.i 100)) (.bin .add (.bi .len (.o (.v 3))) (.i 1)))>=>.for (.tp (.nm 7>=>.nm 8>=>.nil)) (.seq (.ix (.v 1) (.i 6))) lwB>=>lwE)⟩
end EV
namespace K23
open PySem L2 EV
noncomputable def top(i:Nat):Stmt:=PySem.Challenge.pw_glyphhall_k23_all_features_off.main.body.getD i (.Pass ⟨0,0,0,0⟩)
def se(x:Str)(d:D):Str×D:=(x,d)
structure Rc where
 x:Str
 t:Nat
 i:Nat
 n:Nat
 f:Fn
def T:List Rc:=[⟨"law",100,221,1,a8R⟩,⟨"words_of",18,1,1,a1d⟩,⟨"made_of",19,2,2,a2j⟩,⟨"is_name",20,3,1,a2k⟩,⟨"is_number",21,4,1,a0i⟩,⟨"is_signed_number",22,5,1,K9⟩,⟨"class_of_item",23,6,1,Q7⟩,⟨"is_class_item",24,7,1,Q4⟩,⟨"is_item",25,8,1,a2l⟩,⟨"all_names",26,9,1,a2x⟩,⟨"all_signed_numbers",27,10,1,O7⟩,⟨"all_items",28,11,1,a2y⟩,⟨"read_hall",58,12,1,a0h⟩,⟨"take_row",59,13,2,E6⟩,⟨"first_due",60,14,3,a0k⟩,⟨"has_shapes",61,15,2,X4⟩,⟨"pair_of",62,16,1,a2i⟩,⟨"take_shape",63,17,2,W9⟩,⟨"has_side_form",64,18,2,Q5⟩,⟨"take_mark",65,19,2,a0f⟩,⟨"take_point",66,20,2,X0⟩,⟨"has_letter_form",67,21,1,L8⟩,⟨"take_letter",68,22,2,U7⟩,⟨"take_gap",69,23,2,a1e⟩,⟨"take_class",70,24,2,X1⟩,⟨"take_feature",71,25,2,S8⟩,⟨"take_rule",72,26,2,a0e⟩,⟨"has_rule_form",73,27,1,Q6⟩,⟨"rule_parts",74,28,1,X2⟩,⟨"has_items",75,29,2,a0j⟩,⟨"has_item",76,30,2,a1g⟩,⟨"has_rule",77,31,2,a1f⟩,⟨"check_letters",7,33,2,B6⟩,⟨"faces_of",8,34,2,N3⟩,⟨"joined_pairs",9,35,1,C0⟩,⟨"joins_next",10,36,2,C9⟩,⟨"face_among",11,37,3,E7⟩,⟨"fits",30,38,3,a1h⟩,⟨"fitting_shapes",31,39,2,z8⟩,⟨"done",32,40,4,a7S⟩,⟨"items_fit",33,41,5,T6⟩,⟨"all_fit",34,42,3,V7⟩,⟨"told_cells",35,43,2,R4⟩,⟨"homes_of",36,44,1,X3⟩,⟨"check_features",37,45,2,J5⟩,⟨"is_on",38,46,4,a1K⟩,⟨"is_on_at_all",39,47,4,L7⟩,⟨"shaped",41,48,3,a0g⟩,⟨"first_cells",42,49,1,F8⟩,⟨"_law_cell_at",79,201,2,I0⟩,⟨"_law_mixed",80,202,2,p8⟩,⟨"_law_names_by",81,203,2,o9⟩,⟨"_law_shapes_by",82,204,1,D8⟩,⟨"_law_spot_by",83,205,1,C1⟩,⟨"_law_marks_by",84,206,2,F5⟩,⟨"_law_points_by",85,207,2,E1⟩,⟨"_law_letters_by",86,208,2,D0⟩,⟨"_law_classes_by",87,209,2,D1⟩,⟨"_law_items_by",88,210,5,C6⟩,⟨"_law_rules_by",89,211,6,B7⟩,⟨"_law_hall_by",90,212,2,L9⟩,⟨"_law_pair_text",91,213,1,E2⟩,⟨"_law_rule_text",92,214,1,D9⟩,⟨"_law_hall_text",93,215,1,J7⟩,⟨"_law_row_by",94,216,4,O1⟩,⟨"_law_whole",95,217,1,J6⟩,⟨"_law_end_by",96,218,2,K3⟩,⟨"_law_settings_by",97,219,3,E8⟩,⟨"_law_is_cells",98,220,1,F6⟩,⟨"_law_faces",99,222,2,M0⟩]
def fns:List (Str×Nat×Nat):=T.map λr=>(r.x,r.i,r.n)
def G:GT:={
 fn:=fns
 scal:=[se "FIGURES" (.str "0123456789"),se "NAME_SIGNS" (.str "abcdefghijklmnopqrstuvwxyz0123456789"),se "CLASS_SIGN" (.str "@"),se "LONGEST_NAME" (.int 12),se "LONGEST_NUMBER" (.int 5),se "MOST_SHAPES" (.int 60),se "MOST_LETTERS" (.int 24),se "MOST_CLASSES" (.int 20),se "MOST_FEATURES" (.int 10),se "MOST_RULES" (.int 30),se "MOST_IN_CLASS" (.int 20),se "MOST_AROUND" (.int 3),se "MOST_IN_CORE" (.int 4),se "MOST_TOLD" (.int 3)]
 tups:=[("SIDES",[.str "above",.str "below"]),("WAYS",[.str "left",.str "right",.str "either"]),("SWITCHES",[.str "on",.str "off"]),("JOINS_THAT_TAKE",[.str "both",.str "back"])]
 dicts:=[("SHAPES_OF_JOIN",[(.str "none",.int 1),(.str "clear",.int 1),(.str "back",.int 2),(.str "both",.int 4)])]
 obj:=[("Hall",6)]
 atts:=["shapes","marks","points","letters","gaps","classes","features","rules"]
 blt:=["len","str","int","list","tuple","all","any","isinstance","bool","range","enumerate","zip","dict","max"]}
def F(i:Nat):Option Fn:=if i=32 then some O8 else(T.find? λr=>Nat.beq r.i i).map (·.f)
def ct:CT:=⟨λ_=>32⟩
abbrev SH:Stmt:=b4S (top 57) 0
theorem bd0{P:List Value->Prop}(h:P []):∀us,↥us=0->P us:=λus e=>List.eq_nil_of_length_eq_zero e▸h
theorem bdS{P:List Value->Prop}{n:Nat}(h:∀a us,↥us=n->P (a::us)):∀us,↥us=n+1->P us:=λus e=>by
 cases us with
 |nil=>cases e
 |cons a r=>exact h a r (Nat.succ.inj e)
theorem bd1{P:List Value->Prop}(h:∀a,P [a]):∀us,↥us=1->P us:=bdS λa=>bd0 (P:=λl=>P (a::l)) (h a)
theorem bd2{P:List Value->Prop}(h:∀a b,P [a,b]):∀us,↥us=2->P us:=bdS λa=>bd1 (P:=λl=>P (a::l)) (h a)
theorem bd3{P:List Value->Prop}(h:∀a b c,P [a,b,c]):∀us,↥us=3->P us:=bdS λa=>bd2 (P:=λl=>P (a::l)) (h a)
theorem bd4{P:List Value->Prop}(h:∀a b c d,P [a,b,c,d]):∀us,↥us=4->P us:=bdS λa=>bd3 (P:=λl=>P (a::l)) (h a)
theorem bd5{P:List Value->Prop}(h:∀a b c d e,P [a,b,c,d,e]):∀us,↥us=5->P us:=bdS λa=>bd4 (P:=λl=>P (a::l)) (h a)
theorem bd6{P:List Value->Prop}(h:∀a b c d e f,P [a,b,c,d,e,f]):∀us,↥us=6->P us:=bdS λa=>bd5 (P:=λl=>P (a::l)) (h a)
abbrev Bd(x q:Str)(st:Stmt)(ps:List Str):Prop:=∀(kV dh pm:Value) (an:Option Addr) (cQ ct:Value) (us:List Value),↥us=↥ps->bindArgs (PySem.W.fnOf x q (T9 st) (O2 st) (y8 st) .none kV dh pm an cQ ct) ⟨us,[]⟩=pure (ps.zip us)
def pO(st:Stmt):List Str:=(T9 st).args.map (·.arg)
def nO(st:Stmt):List Str:=pO st++((y8 st).names.filter λy=>(y.2==.local||y.2==.cell)&&!(pO st).contains y.1).map (·.1)
structure Rw(x:Str)(st:Stmt)(id np:Nat)(f:Fn):Prop where
 a:FnScope (nO st) (pO st) (y8 st)
 b:Bd x x st (pO st)
 p:↥(pO st)=np
 i:F id=some f
 q:f.np=np
 s:f.ns=↥(nO st)
 c:cSs G (nO st) (y8 st) 20 (O2 st)=some f.body
local macro_rules | `(tactic| ac_rfl) => `(tactic| exact ⟨⟨rfl, rfl, rfl, by decide +kernel, by kernel_rfl, by decide +kernel, by decide +kernel⟩, λ_ _ _ _ _ _ => by first | exact bd1 λ_ => rfl | exact bd2 λ_ _ => rfl | exact bd3 λ_ _ _ => rfl | exact bd4 λ_ _ _ _ => rfl | exact bd5 λ_ _ _ _ _ => rfl | exact bd6 λ_ _ _ _ _ _ => rfl, by kernel_rfl, rfl, rfl, by kernel_rfl, by kernel_rfl⟩)
def b3p:List Rc->Prop
 |[]=>True
 |r::l=>Rw r.x (top r.t) r.i r.n r.f/\b3p l
theorem rs1{x:Str}{t i n:Nat}{f:Fn}{l:List Rc}(a:Rw x (top t) i n f)(b:b3p l):b3p (⟨x,t,i,n,f⟩::l):=⟨a,b⟩
theorem Rs:b3p T:=by
 repeat (refine rs1 (by ac_rfl) ?_)
 exact True.intro
theorem AH:FnScope ["self"] ["self"] (y8 SH):=⟨rfl,rfl,rfl,by decide+kernel,rfl,by decide+kernel,by decide+kernel⟩
theorem BH:Bd "__init__" "Hall.__init__" SH ["self"]:=λ_ _ _ _ _ _=>bd1 λ_=>rfl
theorem CH:cSs G ["self"] (y8 SH) 20 (O2 SH)=some O8.body:=by kernel_rfl
open PySem.W (nsIn codeIn keepIn findIn)
section
variable{K:PySem.W.Frag}{x:Str}
structure DfE(K:PySem.W.Frag)(x:Str)(st:Stmt):Prop where
 ex:∃f fd,nsIn K mainGlobals x=some (~~~f)/\Fun K x x st f fd
theorem c0r{st:Stmt}{f:Addr}{oc:Value}{od an:Option Addr}{eI:Array (Option Value)}{kV dh pm cQ ct:Value}(e1:nsIn K mainGlobals x=some (~~~f))(e2:K.lookup f=some ⟨oc,od,.func (PySem.W.fnOf x x (T9 st) (O2 st) (y8 st) .none kV dh pm an cQ ct),eI⟩)(e3:codeIn K cQ x=true)(e4:keepIn K (.ref f)=true):DfE K x st:=⟨f,_,e1,b2o e2 e3 e4⟩
structure StrE(K:PySem.W.Frag)(x y:Str):Prop where
 ex:∃t,nsIn K mainGlobals x=some (some (.str y t))
theorem b6z{y:Str}{t:Tok}(e1:nsIn K mainGlobals x=some (some (.str y t))):StrE K x y:=⟨t,e1⟩
structure IntE(K:PySem.W.Frag)(x:Str)(i:Int):Prop where
 ex:∃t,nsIn K mainGlobals x=some (some (.int i t))
theorem b7L{i:Int}{t:Tok}(e1:nsIn K mainGlobals x=some (some (.int i t))):IntE K x i:=⟨t,e1⟩
structure TupE(K:PySem.W.Frag)(x:Str)(vs:List V):Prop where
 ex:∃a,nsIn K mainGlobals x=some (~~~a)/\∀H,SqT K H a vs
theorem b3x{a:Addr}{d:Option Addr}{n:Nat}{sl:Array (Option Value)}{y z:Str}{t u:Tok}(e1:nsIn K mainGlobals x=some (~~~a))(e2:K.lookup a=some ⟨.type "tuple",d,.seq #[.str y t,.str z u] n,sl⟩):TupE K x [.str y,.str z]:=
 ⟨a,e1,λH=>.inr ⟨_,_,_,e2,rfl,rfl,by show 2<=sizeLine;decide,.cons ⟨_,rfl⟩ (.cons ⟨_,rfl⟩ .nil)⟩⟩
theorem b3w{a:Addr}{d:Option Addr}{n:Nat}{sl:Array (Option Value)}{y z v:Str}{t u r:Tok}(e1:nsIn K mainGlobals x=some (~~~a))(e2:K.lookup a=some ⟨.type "tuple",d,.seq #[.str y t,.str z u,.str v r] n,sl⟩):TupE K x [.str y,.str z,.str v]:=
 ⟨a,e1,λH=>.inr ⟨_,_,_,e2,rfl,rfl,by show 3<=sizeLine;decide,.cons ⟨_,rfl⟩ (.cons ⟨_,rfl⟩ (.cons ⟨_,rfl⟩ .nil))⟩⟩
structure DicE(K:PySem.W.Frag)(P:Program)(w:World)(x:Str)(gs:List (Key×V)):Prop where
 ex:∃a,nsIn K mainGlobals x=some (~~~a)/\b0g P w K a gs
theorem b5x{P:Program}{w:World}{a:Addr}{ep:Nat}{h1 h2 h3 h4:Int}{y1 y2 y3 y4:Str}{i1 i2 i3 i4:Int}{t1 t2 t3 t4 u1 u2 u3 u4:Tok}(e1:nsIn K mainGlobals x=some (~~~a))
 (e2:K.lookup a=some ⟨.type "dict",none,.dict #[⟨h1,.str y1 t1,.int i1 u1⟩,⟨h2,.str y2 t2,.int i2 u2⟩,⟨h3,.str y3 t3,.int i3 u3⟩,⟨h4,.str y4 t4,.int i4 u4⟩] ep,#[]⟩) (ha:(a==sysModules)=false)
 (q1:h1=hashStr w y1) (q2:h2=hashStr w y2) (q3:h3=hashStr w y3) (q4:h4=hashStr w y4) (nd:([.inr y1,.inr y2,.inr y3,.inr y4]:List Key).Nodup):DicE K P w x [(.inr y1,.int i1),(.inr y2,.int i2),(.inr y3,.int i3),(.inr y4,.int i4)]:=by
 refine⟨a,e1,ha,[(.inr y1,.int i1 u1),(.inr y2,.int i2 u2),(.inr y3,.int i3 u3),(.inr y4,.int i4 u4)],?_,λh kin=>⟨_,_,_,kin a _ e2,⟨rfl,rfl,rfl⟩,rfl,?_,?_,nd⟩⟩
 · exact .cons ⟨rfl,_,rfl⟩ (.cons ⟨rfl,_,rfl⟩ (.cons ⟨rfl,_,rfl⟩ (.cons ⟨rfl,_,rfl⟩ .nil)))
 · intro e he;simp only[List.mem_toArray,aH,not_mem_nil,or_false] at he;rcases he with rfl|rfl|rfl|rfl
   · exact⟨.inr y1,strKind_is P w y1 t1,q1⟩
   · exact⟨.inr y2,strKind_is P w y2 t2,q2⟩
   · exact⟨.inr y3,strKind_is P w y3 t3,q3⟩
   · exact⟨.inr y4,strKind_is P w y4 t4,q4⟩
 · exact .cons (strKind_is P w y1 t1) rfl (.cons (strKind_is P w y2 t2) rfl (.cons (strKind_is P w y3 t3) rfl (.cons (strKind_is P w y4 t4) rfl .nil)))
structure HallE(K:PySem.W.Frag)(C:Addr):Prop where
 ex:∃f fd,Mk K C f/\Fun K "__init__" "Hall.__init__" SH f fd
theorem b4Y{C f:Addr}{oc:Value}{od an:Option Addr}{eI:Array (Option Value)}{kV dh pm cQ ct:Value}(m1:PySem.W.makesIn K C=true)(m2:findIn K (.ref C) "__init__"=some (~~~f))(m3:PySem.W.isFn K (.ref f)=true)(m4:keepIn K (.ref C)=true)
 (e2:K.lookup f=some ⟨oc,od,.func (PySem.W.fnOf "__init__" "Hall.__init__" (T9 SH) (O2 SH) (y8 SH) .none kV dh pm an cQ ct),eI⟩) (e3:codeIn K cQ "Hall.__init__"=true) (e4:keepIn K (.ref f)=true):HallE K C:=⟨f,_,⟨m1,m2,m3,m4⟩,b2o e2 e3 e4⟩
end
theorem K2{α:Type}{x y:Str}{a b:α}{l:List (Str×α)}(h:((y,a)::l).lookup x=some b):(x=y/\a=b)∨l.lookup x=some b:=by
 rw[lookup_cons] at h;split at h
 · rename_i e;exact .inl ⟨eq_of_beq e,ay h⟩
 · exact .inr h
theorem a6z{α:Type}{x:Str}{b:α}(h:([]:List (Str×α)).lookup x=some b):False:=by simp at h
section
variable{K:PySem.W.Frag}{P:Program}{w:World}{h:Heap}{mg:Str->Option Value}
theorem row{x:Str}{st:Stmt}{id np:Nat}{fn:Fn}(X:K.In h)(Gg:h.Ns mainGlobals mg)(d:DfE K x st)(R:Rw x st id np fn):∃f fd st N ps,mg x= ~~~f/\RowOk K G F x x id np f fd st N ps:=by obtain⟨f,fd,e,F⟩:=d.ex;exact⟨f,fd,st,_,_,PySem.W.mg_of X Gg e,F,R.a,F.binds R.b,R.p,fn,R.i,R.q,R.s,R.c⟩
def a8d(K:PySem.W.Frag)(mg:Str->Option Value):List (Str×Nat×Nat)->Prop
 |[]=>True
 |p::l=>(∃f fd st N ps,mg p.1= ~~~f/\RowOk K G F p.1 p.1 p.2.1 p.2.2 f fd st N ps)/\a8d K mg l
theorem a8r:∀{l:List (Str×Nat×Nat)},a8d K mg l->∀x id np,l.lookup x=some (id,np)->∃f fd st N ps,mg x= ~~~f/\RowOk K G F x x id np f fd st N ps
 |[],_,x,id,np,h=>(a6z h).elim
 |(y,a,b)::l,r,x,id,np,h=>by
  rcases K2 h with⟨rfl,e⟩|h
  · cases e;exact r.1
  · exact a8r r.2 x id np h
def b3r(K:PySem.W.Frag):List Rc->Prop
 |[]=>True
 |r::l=>DfE K r.x (top r.t)/\b3r K l
theorem ds1{x:Str}{t i n:Nat}{f:Fn}{l:List Rc}(a:DfE K x (top t))(b:b3r K l):b3r K (⟨x,t,i,n,f⟩::l):=⟨a,b⟩
theorem a8q(X:K.In h)(Gg:h.Ns mainGlobals mg):∀{l:List Rc},b3r K l->b3p l->a8d K mg (l.map λr=>(r.x,r.i,r.n))
 |[],_,_=>True.intro
 |_::_,d,q=>⟨row X Gg d.1 q.1,a8q X Gg d.2 q.2⟩
variable{c6:Addr}(k6:nsIn K mainGlobals "Hall"=some (~~~c6))(fs:b3r K T)(db:StrE K "FIGURES" "0123456789")(cC:StrE K "NAME_SIGNS" "abcdefghijklmnopqrstuvwxyz0123456789")(cF:StrE K "CLASS_SIGN" "@")(ck:IntE K "LONGEST_NAME" 12)(bX:IntE K "LONGEST_NUMBER" 5)(cv:IntE K "MOST_SHAPES" 60)(ce:IntE K "MOST_LETTERS" 24)(ci:IntE K "MOST_CLASSES" 20)(ca:IntE K "MOST_FEATURES" 10)(cD:IntE K "MOST_RULES" 30)(bZ:IntE K "MOST_IN_CLASS" 20)(cw:IntE K "MOST_AROUND" 3)(cg:IntE K "MOST_IN_CORE" 4)(cK:IntE K "MOST_TOLD" 3)(dH:TupE K "SIDES" [.str "above",.str "below"])(cU:TupE K "SWITCHES" [.str "on",.str "off"])(ei:TupE K "WAYS" [.str "left",.str "right",.str "either"])(bW:TupE K "JOINS_THAT_TAKE" [.str "both",.str "back"])(dJ:DicE K P w "SHAPES_OF_JOIN" [(.inr "none",.int 1),(.inr "clear",.int 1),(.inr "back",.int 2),(.inr "both",.int 4)])(hall:HallE K c6)(cl:Cls K c6)(dq:findIn K (.ref c6) "shapes"=some none)(dM:findIn K (.ref c6) "marks"=some none)(dr:findIn K (.ref c6) "points"=some none)(cY:findIn K (.ref c6) "letters"=some none)(ek:findIn K (.ref c6) "gaps"=some none)(cZ:findIn K (.ref c6) "classes"=some none)(cV:findIn K (.ref c6) "features"=some none)(dL:findIn K (.ref c6) "rules"=some none)(fj:nsIn K mainGlobals "len"=some none)(ff:nsIn K mainGlobals "str"=some none)(fm:nsIn K mainGlobals "int"=some none)(eB:nsIn K mainGlobals "list"=some none)(dR:nsIn K mainGlobals "tuple"=some none)(ft:nsIn K mainGlobals "all"=some none)(fq:nsIn K mainGlobals "any"=some none)(cG:nsIn K mainGlobals "isinstance"=some none)(eD:nsIn K mainGlobals "bool"=some none)(dS:nsIn K mainGlobals "range"=some none)(cL:nsIn K mainGlobals "enumerate"=some none)(fb:nsIn K mainGlobals "zip"=some none)(eC:nsIn K mainGlobals "dict"=some none)(fh:nsIn K mainGlobals "max"=some none)
include k6 fs db cC cF ck bX cv ce ci ca cD bZ cw cg cK dH cU ei bW dJ hall cl dq dM dr cY ek cZ cV dL fj ff fm eB dR ft fq cG eD dS cL fb eC fh
theorem b3J(X:K.In h)(Gg:h.Ns mainGlobals mg):Stat P w ⟨K,λ_=>c6,[6],[]⟩ G ct F mg where
 scal:=λx d hx=>by
  have S:∀{x y:Str},StrE K x y->∃u v,mg x=some u/\l8 v u/\∀m H,Rp m H (.str y) v:=λe=>by obtain⟨t,e⟩:=e.ex;exact⟨_,.str _,PySem.W.mg_of X Gg e,⟨t,rfl⟩,λ_ _=>rfl⟩
  have I:∀{x:Str} {i:Int},IntE K x i->∃u v,mg x=some u/\l8 v u/\∀m H,Rp m H (.int i) v:=λe=>by obtain⟨t,e⟩:=e.ex;exact⟨_,.int _,PySem.W.mg_of X Gg e,⟨t,rfl⟩,λ_ _=>rfl⟩
  unfold G se at hx;simp only at hx;rcases K2 hx with⟨rfl,rfl⟩|hx
  · exact S db
  rcases K2 hx with⟨rfl,rfl⟩|hx
  · exact S cC
  rcases K2 hx with⟨rfl,rfl⟩|hx
  · exact S cF
  rcases K2 hx with⟨rfl,rfl⟩|hx
  · exact I ck
  rcases K2 hx with⟨rfl,rfl⟩|hx
  · exact I bX
  rcases K2 hx with⟨rfl,rfl⟩|hx
  · exact I cv
  rcases K2 hx with⟨rfl,rfl⟩|hx
  · exact I ce
  rcases K2 hx with⟨rfl,rfl⟩|hx
  · exact I ci
  rcases K2 hx with⟨rfl,rfl⟩|hx
  · exact I ca
  rcases K2 hx with⟨rfl,rfl⟩|hx
  · exact I cD
  rcases K2 hx with⟨rfl,rfl⟩|hx
  · exact I bZ
  rcases K2 hx with⟨rfl,rfl⟩|hx
  · exact I cw
  rcases K2 hx with⟨rfl,rfl⟩|hx
  · exact I cg
  rcases K2 hx with⟨rfl,rfl⟩|hx
  · exact I cK
  exact(a6z hx).elim
 tups:=λx ds hx=>by
  unfold G at hx;simp only at hx;rcases K2 hx with⟨rfl,rfl⟩|hx
  · obtain⟨a,e,s⟩:=dH.ex;exact⟨a,_,PySem.W.mg_of X Gg e,s,λ_ _=>⟨.str "above",_,rfl,rfl,⟨.str "below",_,rfl,rfl,rfl⟩⟩⟩
  rcases K2 hx with⟨rfl,rfl⟩|hx
  · obtain⟨a,e,s⟩:=ei.ex;exact⟨a,_,PySem.W.mg_of X Gg e,s,λ_ _=>⟨.str "left",_,rfl,rfl,⟨.str "right",_,rfl,rfl,⟨.str "either",_,rfl,rfl,rfl⟩⟩⟩⟩
  rcases K2 hx with⟨rfl,rfl⟩|hx
  · obtain⟨a,e,s⟩:=cU.ex;exact⟨a,_,PySem.W.mg_of X Gg e,s,λ_ _=>⟨.str "on",_,rfl,rfl,⟨.str "off",_,rfl,rfl,rfl⟩⟩⟩
  rcases K2 hx with⟨rfl,rfl⟩|hx
  · obtain⟨a,e,s⟩:=bW.ex;exact⟨a,_,PySem.W.mg_of X Gg e,s,λ_ _=>⟨.str "both",_,rfl,rfl,⟨.str "back",_,rfl,rfl,rfl⟩⟩⟩
  exact(a6z hx).elim
 dicts:=λx bF hx=>by
  unfold G at hx;simp only at hx;rcases K2 hx with⟨rfl,rfl⟩|hx
  · obtain⟨a,e,d⟩:=dJ.ex;exact⟨a,_,PySem.W.mg_of X Gg e,d,λ_ _=>.cons ⟨rfl,rfl⟩ (.cons ⟨rfl,rfl⟩ (.cons ⟨rfl,rfl⟩ (.cons ⟨rfl,rfl⟩ .nil)))⟩
  exact(a6z hx).elim
 blt:=λx hx=>by
  rw[List.contains_iff_mem] at hx;unfold G at hx;simp only[aH,not_mem_nil,or_false] at hx;rcases hx with rfl|rfl|rfl|rfl|rfl|rfl|rfl|rfl|rfl|rfl|rfl|rfl|rfl|rfl
  · exact PySem.W.ns_none_of X Gg fj
  · exact PySem.W.ns_none_of X Gg ff
  · exact PySem.W.ns_none_of X Gg fm
  · exact PySem.W.ns_none_of X Gg eB
  · exact PySem.W.ns_none_of X Gg dR
  · exact PySem.W.ns_none_of X Gg ft
  · exact PySem.W.ns_none_of X Gg fq
  · exact PySem.W.ns_none_of X Gg cG
  · exact PySem.W.ns_none_of X Gg eD
  · exact PySem.W.ns_none_of X Gg dS
  · exact PySem.W.ns_none_of X Gg cL
  · exact PySem.W.ns_none_of X Gg fb
  · exact PySem.W.ns_none_of X Gg eC
  · exact PySem.W.ns_none_of X Gg fh
 fn:=λx id np hx=>a8r (l:=fns) (a8q X Gg fs Rs) x id np hx
 obj:=λx k hx=>by
  unfold G at hx;simp only at hx;rcases K2 hx with⟨rfl,rfl⟩|hx
  · obtain⟨f,fd,M,F⟩:=hall.ex;exact⟨by simp,PySem.W.mg_of X Gg k6,f,fd,SH,["self"],["self"],"Hall.__init__",M,F,AH,F.binds BH,rfl,O8,rfl,rfl,rfl,CH⟩
  exact(a6z hx).elim
 att:=λk hk=>by
  refine⟨cl,λf hf=>?_⟩;rw[List.contains_iff_mem] at hf;unfold G at hf;simp only[aH,not_mem_nil,or_false] at hf;rcases hf with rfl|rfl|rfl|rfl|rfl|rfl|rfl|rfl
  · exact dq
  · exact dM
  · exact dr
  · exact cY
  · exact ek
  · exact cZ
  · exact cV
  · exact dL
theorem b3K:∃cA,DfE K "law" (top 100)/\∀{h:Heap} {mg:Str->Option Value},K.In h->h.Ns mainGlobals mg->Stat P w ⟨K,cA,[6],[]⟩ G ct F mg:=⟨_,fs.1,λX Gg=>b3J k6 fs db cC cF ck bX cv ce ci ca cD bZ cw cg cK dH cU ei bW dJ hall cl dq dM dr cY ek cZ cV dL fj ff fm eB dR ft fq cG eD dS cL fb eC fh X Gg⟩
end
open PyProof.Rows hiding St
theorem b8W{l:PySem.W.OpenLaw}{n k:Nat}{q:Program}{dF:List Str}{XP:(Str->Option Value)->Heap->Prop}{YP:World->Heap->Prop}{d:DefRec}{K:Params->PySem.W.Frag}{CX:World->CXT}{sp:PySem.W.Frag->Sp}{x:Str}
 (hn:l.most=some n) (hn2:n<=sizeLine) (hdf:d.params.defaults=[]) (hr:Room k callerA)
 (hY:∀(w:World) (h:Heap),YP w h->(K w.params).In h)
 (F:∀(w:World) (mg:Str->Option Value) (fa:Addr) (h:Heap),(K w.params).In h->h.Ns mainGlobals mg->mg d.name= ~~~fa→
  ∃fd:FuncData,(∀(s:Shared) (u:Value),BindsTo s fd ⟨[u],[]⟩ [(x,u)])∧
   ∀base:Heap,(K w.params).In base->base.Ns mainGlobals mg->FnOk l.prog w (K w.params) mg base (CX w) k fa fd [x] (sp (K w.params)))
 (eQ:∀(w:World) (H:Hp) (a:Addr) (ns:List Int),↥ns<=n->b3q H->SqL (K w.params) H a (ns.map V.int)->sp (K w.params) [.ref a] H (λv _=>v=.bl true) λ_ _ _=>False)
 (hCX:∀(w:World) (H:Hp) (s:Shared) (e:Value) (s':Shared),CX w [] H s (λ_ _ _=>False) e s'->False):
 PySem.W.WalkO q dF XP YP l.row.toRowW d [] (λf vs=>PySem.call f vs):=
 b3t (K:=K) (CX:=CX) (sp:=λw=>sp (K w.params)) hn hn2 hdf hr hY F eQ hCX
def spK(K:PySem.W.Frag):Sp:=λvs H Q E=>∀cA,a4W ⟨K,cA,[6],[]⟩ (b5 ct F 20) 221 1 vs H Q E
theorem b7T{K:PySem.W.Frag}{P:Program}{w:World}{cA:Nat->Addr}{h:Heap}{mg:Str->Option Value}{fa:Addr}(D:DfE K "law" (top 100))(S:Stat P w ⟨K,cA,[6],[]⟩ G ct F mg)(X:K.In h)(Gg:h.Ns mainGlobals mg)(hmg:mg "law"= ~~~fa):
 ∃fd,(∀(s:Shared) (u:Value),BindsTo s fd ⟨[u],[]⟩ [("_law_script",u)])/\∀base:Heap,FnOk P w K mg base CX0 46 fa fd ["_law_script"] (spK K):=by
 obtain⟨f,fd,e,Fn⟩:=D.ex;have e0:=hmg.symm.trans (PySem.W.mg_of X Gg e);cases e0;have R:RowOk K G F "law" "law" 221 1 fa fd (top 100) (nO (top 100)) (pO (top 100)):=⟨Fn,Rs.1.a,Fn.binds Rs.1.b,Rs.1.p,a8R,Rs.1.i,Rs.1.q,Rs.1.s,Rs.1.c⟩;refine⟨fd,λs u=>?_,λbase=>?_⟩
 · obtain⟨oc,od,kV,dh,pm,an,cQ,ct,eI,rfl,lk,eS⟩:=Fn.ex;exact .of_eq (Rs.1.b kV dh pm an cQ ct [u] rfl)
 · have ih:=b7S S 19;have g:=a5B S ih.1 ih.2 (b3h S 19) R base;exact⟨λvs H Q E hh=>g.len vs H Q E (hh cA),λA outer s H args us vs Q E a1 a2 a3 a4 hh=>g.run A outer s H args us vs Q E a1 a2 a3 a4 (hh cA)⟩
noncomputable def isL(o:Obj):Bool:=match o.cls with
 |.type n=>n=="list"
 |_=>false
def b1w(K:PySem.W.Frag):Bool:=K.all λp=>!isL p.2
theorem b4B{K:PySem.W.Frag}(h:b1w K=true){a:Addr}{o:Obj}(e:K.lookup a=some o):o.cls≠.type "list":=by
 intro z;have hm:∃b,(b,o)∈K:=by
  clear h
  induction K with
  |nil=>cases e
  |cons p r ih=>
   rw[lookup_cons] at e;split at e
   · cases e;exact⟨p.1,ba⟩
   · obtain⟨b,hb⟩:=ih e;exact⟨b,aF _ hb⟩
 obtain⟨b,hb⟩:=hm;have:=bp.mp h (b,o) hb;unfold isL at this;simp only at this;rw[z] at this;simp at this
theorem a6l(m:List Addr)(H:Hp):∀ns:List Int,Rps m H (ns.map D.int) (ns.map V.int)
 |[]=>rfl
 |n::r=>⟨_,_,rfl,rfl,a6l m H r⟩
theorem b7y{K:PySem.W.Frag}{H:Hp}{a:Addr}{ns:List Int}(LT:∀ns:List Int,↥ns<=63->∃h',b5 ct F 20 221 [.ref 0] [.rol (ns.map .int)]=.ok (.bl true) h')(nl:b1w K=true)(hl:↥ns<=63)(hO:b3q H)(hS:SqL K H a (ns.map V.int)):
 spK K [.ref a] H (λv _=>v=.bl true) λ_ _ _=>False:=by
 intro cA;obtain⟨h',e⟩:=LT ns hl;have hf:∃o,H a=some (.frz o (.lst (ns.map V.int))):=by
  rcases hS with hS|⟨o,bG,n,hk,hc,_⟩
  · rcases hS with hS|hS
    · rcases hO a with z|⟨o,xs,z⟩
      · rw[hS] at z;cases z
      · rw[hS] at z;cases z
    · exact hS
  · exact absurd hc (b4B nl hk)
 refine⟨[.ref 0],[.rol (ns.map .int)],[a],rfl,⟨_,_,rfl,⟨a,rfl,rfl⟩,rfl⟩,⟨rfl,by simp,λn b c hn hc=>?_⟩,?_⟩
 · cases n with
   |zero=>
    cases hn;cases hc;obtain⟨o,hf⟩:=hf;exact⟨_,hS,a6l _ _ _,o,hf⟩
   |succ n=>simp at hn
 · rw[e];exact λm' H' v _ _ _ rv=>rv
end K23
namespace EV
open PySem L2 L2T
noncomputable def a4e:R Out->R D
 |.ok (.nx _) h=>.ok .non h
 |.ok (.rt d) h=>.ok d h
 |.no=>.no
theorem a0N:∀{a b:List Char},a.map Char.toNat=b.map Char.toNat->a=b
 |[],[],_=>rfl
 |[],_::_,h=>by simp at h
 |_::_,[],h=>by simp at h
 |x::xs,y::ys,h=>by rw[map_cons,map_cons] at h;injection h with h1 h2;rw[a0N h2,Char.ext (UInt32.toNat_inj.mp h1)]
theorem a5i{a b:String}:(Str.ofString a=Str.ofString b)=(a=b):=propext ⟨λh=>by rw[Str.ofString_eq_toList,Str.ofString_eq_toList] at h;injection h with h;have:=congrArg Array.toList h;exact String.toList_inj.mp (a0N (by simpa using this)),λh=>by rw[h]⟩
theorem sl1:(1<=SL)=True:=eq_true ∅
theorem sl2:(2<=SL)=True:=eq_true ∅
theorem sl3:(3<=SL)=True:=eq_true ∅
theorem sl4:(4<=SL)=True:=eq_true ∅
theorem sl5:(5<=SL)=True:=eq_true ∅
theorem sl6:(6<=SL)=True:=eq_true ∅
variable{env:u9}{h:AH}
theorem b4s:a4e (.ok (.nx env) h)=.ok .non h:=rfl
variable{d:D}
theorem b4r:a4e (.ok (.rt d) h)=.ok d h:=rfl
theorem b4t:a4e .no=.no:=rfl
structure PF(F:Nat->Option Fn):Prop where
 f1:F 1=some a1d
 f2:F 2=some a2j
 f3:F 3=some a2k
 f4:F 4=some a0i
 f5:F 5=some K9
 f6:F 6=some Q7
 f7:F 7=some Q4
 f8:F 8=some a2l
 f9:F 9=some a2x
 f10:F 10=some O7
 f11:F 11=some a2y
 f12:F 12=some a0h
 f13:F 13=some E6
 f14:F 14=some a0k
 f15:F 15=some X4
 f16:F 16=some a2i
 f17:F 17=some W9
 f18:F 18=some Q5
 f19:F 19=some a0f
 f20:F 20=some X0
 f21:F 21=some L8
 f22:F 22=some U7
 f23:F 23=some a1e
 f24:F 24=some X1
 f25:F 25=some S8
 f26:F 26=some a0e
 f27:F 27=some Q6
 f28:F 28=some X2
 f29:F 29=some a0j
 f30:F 30=some a1g
 f31:F 31=some a1f
 f32:F 32=some O8
variable{n:Nat}{ds:List D}{p:Pat}{c:CF}{l:List D}{α:Type}{g:AH}{r:R D}{it:I}{h1:AH}
section
variable{ct:CT}{F:Nat->Option Fn}
theorem i6{f:Nat}{fd:Fn}(hF:F f=some fd)(hl:↥ds=fd.np):b5 ct F (n+1) f ds h=gcR fd.gc h (a4e (exs ct (b5 ct F n) fd.body (ds.map some++List.replicate (fd.ns-fd.np) none) h)):=by
 show(match F f with
  |none=>R.no
  |some fd=>if ↥ds=fd.np then gcR fd.gc h (match exs ct (b5 ct F n) fd.body (ds.map some++List.replicate (fd.ns-fd.np) none) h with
   |.ok (.nx _) h'=>.ok .non h'
   |.ok (.rt d) h'=>.ok d h'
   |.no=>.no) else .no)=_
 rw[hF];simp only;rw[az hl];generalize exs ct (b5 ct F n) fd.body (ds.map some++List.replicate (fd.ns-fd.np) none) h=r;cases r with
 |ok o h=>cases o<;>rfl
 |no=>rfl
theorem a1k{g:List (Nat×Cell)}{p:Pat}{t:u9->AH->R Bool}{e:u9->AH->R D}{env0:u9}{h:AH}(hg:gOk g h=true)(B:D->Bool)(f:D->D)(env:D->u9):
 ∀(l bR:List D),(∀x∈l,F7 p x env0=some (env x)/\t (env x) h=.ok (B x) h/\(B x=true->e (env x) h=.ok (f x) h))->↥bR+↥l<=SL->Q0 g p t e env0 l bR h=.ok (bR++(l.filter B).map f) h
 |[],bR,_,_=>by rw[Q0,az hg];simp
 | x::r,bR,hx,hl=>by
  obtain⟨h1,h2,h3⟩:=hx x ba;have ih:=λacc' hl'=>a1k hg B f env r acc' (λy hy=>hx y (aF _ hy)) hl';rw[Q0,az hg,h1];simp only;rw[h2,d9];rw[length_cons] at hl;cases hb:B x with
  |true=>
   rw[az rfl,h3 hb,d9,az nofun,ih _ (by simp;ac_nf),List.filter_cons_of_pos hb];simp
  |false=>
   rw[aA ⋯,ih _ nofun,List.filter_cons_of_neg (by simp[hb])]
theorem b0c{g:List (Nat×Cell)}{e:u9->AH->R D}{env0:u9}(hg:gOk g h=true)(f:D->D)(env:D->u9)(l:List D)(hx:∀x∈l,F7 p x env0=some (env x)/\e (env x) h=.ok (f x) h)(hl:↥l<=SL):
 Q0 g p (tst ct c .yes) e env0 l [] h=.ok (l.map f) h:=by
 have:=a1k (t:=tst ct c .yes) hg (λ_=>true) f env l [] (λx ee=>⟨(hx x ee).1,rfl,λ_=>(hx x ee).2⟩) (by simpa using hl);rw[this,List.filter_eq_self.mpr (λ_ _=>rfl),nil_append]
theorem a3V{α:Type}(P:α->Bool):∀l:List α,a7f (l.map λx=>D.bl (P x))=some (l.map P)
 |[]=>rfl
 |x::r=>by rw[map_cons,a7f,a3V P r];rfl
theorem a1U:∀l:List Str,a3e (l.map D.str)=some l
 |[]=>rfl
 |x::r=>by rw[map_cons,a3e,a1U r];rfl
theorem a1x:rdL (h++[.lst l]) ↥h=some l:=by unfold rdL;simp
theorem b7{c:Cell}:(h++[c])[↥h]? =some c:=by simp
theorem X9{P:α->Bool}{l:List α}:biD .all (h++[.lst (l.map λx=>D.bl (P x))]) [.ref ↥h]=.ok (.bl (l.all P)) (h++[.lst (l.map λx=>D.bl (P x))]):=by simp only[biD,bi1,biL,b7,a1x,a3V];congr 2;simp[all_map]
theorem b5N{P:α->Bool}{l:List α}:biD .any (h++[.lst (l.map λx=>D.bl (P x))]) [.ref ↥h]=.ok (.bl (l.any P)) (h++[.lst (l.map λx=>D.bl (P x))]):=by simp only[biD,bi1,biL,b7,a1x,a3V];congr 2;simp[List.any_map]
theorem gc1(hd:d.flat=true):gcR 1 h (.ok d (h++g))=.ok d h:=by unfold gcR;simp only;rw[aA ∅];simp[hd]
theorem u8(hd:d.flat=true):gcR 1 h (.ok d h)=.ok d h:=by
 have:=gc1 (h:=h) (g:=[]) hd
 simpa using this
theorem gc0:gcR 0 h r=r:=by cases r<;>rfl
noncomputable def N5(row:Str):List Str:=(Txt.split row " ").filter λw=>decide (w≠"")
theorem a2s(c:Nat):∀cs:List Nat,∃ps:List (List Nat),ps≠[]/\(∀p∈ps,c∉p)/\jn c ps=cs
 |[]=>⟨[[]],by simp,by simp,rfl⟩
 | x ::cs=>by
  obtain⟨ps,h1,h2,h3⟩:=a2s c cs
  by_cases hx:x=c
  · subst hx;refine⟨[]::ps,by simp,λp hp=>?_,?_⟩
    · rcases aH.mp hp with rfl|hp
      · simp
      · exact h2 p hp
    · cases ps with
      |nil=>exact absurd rfl h1
      |cons p r=>rw[←h3];rfl
  · cases ps with
    |nil=>exact absurd rfl h1
    |cons p r=>
     refine⟨(x::p)::r,by simp,λq hq=>?_,?_⟩
     · rcases aH.mp hq with rfl|hq
       · intro hc;rcases aH.mp hc with e|e
         · exact hx e.symm
         · exact h2 p ba e
       · exact h2 q (aF _ hq)
     · rw[←h3];cases r<;>rfl
theorem b1K(c:Nat):∀ps:List (List Nat),↥ps<=↥(jn c ps)+1
 |[]=>by simp
 |[x]=>by simp
 |x::y::r=>by have:=b1K c (y::r);show(y::r).length+1<=↥(x++c::jn c (y::r))+1;simp only[au,length_cons] at this⊢;ac_nf
theorem a9o(x:Str)(c:Nat):↥(Txt.split x ⟨#[c]⟩)<=↥x+1:=by
 obtain⟨ps,h1,h2,h3⟩:=a2s c (cd x);have e:(ps.map λp=>(⟨p.toArray⟩:Str)).map cd=ps:=by rw[aK];refine List.map_id'' (λp=>?_) ps;simp[cd]
 rw[a3g (ps:=ps.map λp=>(⟨p.toArray⟩:Str)) (by simpa using h1) (λp hp=>by
  obtain⟨q,hq,rfl⟩:=ao.mp hp
  simpa [cd] using h2 q hq) (by rw[e,h3]),aa,←u7,←h3]
 exact b1K c ps
theorem C2:∀l:List Str,D.flats (l.map D.str)=true
 |[]=>rfl
 |x::r=>by rw[map_cons,D.flats,C2 r];rfl
section
variable{a b e:E}{t:T}
theorem b4R{i:Int}:a8K (.ok (.int i) h)=.ok (some i) h:=rfl
theorem a0t{b:Bool}:asB (.ok (.bl b) h)=.ok b h:=rfl
theorem a2W{fr:List Nat}{x:Its}{h2:AH}(hi:evi ct c it env h=.ok x h1)(hc:Q0 x.2 p (tst ct c t) (ev ct c e) (F0 n fr env) x.1 [] h1=.ok ds h2):ev ct c (.comp p it n fr t e) env h=.ok (.ref ↥h2) (h2++[.lst ds]):=by show(evi ct c it env h).bind _=_;rw[hi,d9,hc];rfl
end
section
variable{e:E}{t:T}
theorem J0{fr:List Nat}{g:List (Nat×Cell)}(hi:evi ct c it env h=.ok (l,g) h1)(hg:gOk g h1=true)(B:D->Bool)(f:D->D)(cJ:D->u9)
 (hx:∀x∈l,F7 p x (F0 n fr env)=some (cJ x)/\tst ct c t (cJ x) h1=.ok (B x) h1/\(B x=true->ev ct c e (cJ x) h1=.ok (f x) h1)) (hl:↥l<=SL):ev ct c (.comp p it n fr t e) env h=.ok (.ref ↥h1) (h1++[.lst ((l.filter B).map f)]):=
 a2W (x:=(l,g)) hi (a1k hg B f cJ l [] hx (by simpa using hl))
theorem o6{fr:List Nat}{g:List (Nat×Cell)}(hi:evi ct c it env h=.ok (l,g) h1)(hg:gOk g h1=true)(f:D->D)(cJ:D->u9)
 (hx:∀x∈l,F7 p x (F0 n fr env)=some (cJ x)/\ev ct c e (cJ x) h1=.ok (f x) h1) (hl:↥l<=SL):ev ct c (.comp p it n fr .yes e) env h=.ok (.ref ↥h1) (h1++[.lst (l.map f)]):=
 a2W (x:=(l,g)) hi (b0c hg f cJ l hx hl)
end
theorem gc2{k:Nat}{c:Cell}(hk:(h++g)[k]? =some c)(hl:↥h<=k)(hc:c.flat=true):gcR 2 h (.ok (.ref k) (h++g))=.ok (.ref ↥h) (h++[c]):=by unfold gcR;simp only[hk];simp[hl,hc]
end
end EV
local macro_rules
  | `(tactic| simp! [$ls,*]) => `(tactic| simp only [EV.b7Z, EV.c2k, EV.b2L, EV.b8d, EV.b5j, EV.c0x, EV.c0B, EV.b8b, EV.b8g, EV.c0z, EV.c0w, EV.b8f, EV.b2K, EV.b8a, EV.b5m, EV.b8c, EV.b5p, EV.b6d, EV.c0A, EV.c0y, EV.b8e, EV.b5l, EV.b5k, EV.a8S, EV.b2G, EV.a4Q, EV.b3y, EV.b3B, EV.b3A, EV.b0o, EV.b3C, EV.b6p, EV.b3z, EV.b6o, EV.b7Y, EV.b2H, EV.b4R, EV.a0t, EV.a2V, EV.a6Q, EV.a6P, EV.b5i, EV.a0l, EV.c0u, EV.a1i, EV.b2E, EV.b2F, EV.b2D, EV.b7W, EV.a5E, EV.K4, EV.d9, EV.b5J,
      map_cons, map_nil, cons_append, nil_append, List.getElem?_cons_zero, List.getElem?_cons_succ, List.set_cons_zero, List.set_cons_succ, List.replicate, length_cons, length_nil, if_true, if_false, Bool.false_eq_true, Bool.true_eq_false, EV.b4r, EV.b4s, EV.b4t, Nat.reduceSub, Nat.reduceAdd, Nat.reduceLT, aC, Nat.zero_le, EV.a5i, String.reduceEq, EV.sl1, EV.sl2, EV.sl3, EV.sl4, EV.sl5, EV.sl6, $ls,*])
namespace EV
open PySem L2 L2T
variable{z:Str}{h:AH}{xs:List D}{w:Nat}{d:D}{n:Nat}{id:Nat}{ws:List Str}
section
variable{ct:CT}{F:Nat->Option Fn}
noncomputable def due(a b c:Bool):Option Str:=if a then some "twice" else if !b then some "name" else if c then some "many" else none
noncomputable def U8:Option Str->D
 |some x=>.str x
 |none=>.non
theorem V9(o:Option Str):decide (U8 o=.non)=o.isNone:=by cases o<;>simp[U8]
theorem a0p{a b c:Bool}(h:due a b c=none):a=false/\b=true/\c=false:=by cases a<;>cases b<;>cases c<;>simp[due] at h⊢
theorem W2{c:Nat}:Txt.startswith z ⟨#[c]⟩=decide ((cd z).head? =some c):=by have:=StrLaws.subAt_one z c 0;unfold Txt.startswith;rw[Bool.eq_iff_iff,ae,decide_eq_true_iff,this,decide_eq_true_iff];show(cd z)[0]? =some c↔_;rw[List.head?_eq_getElem?]
theorem a6f(z:Str)(h:1<=↥z):Txt.slice z (some 1) none=tl z:=by
 rw[PyProof.Rows.slice_from_eq (b:=↥z) ∅ nofun rfl];unfold tl;congr 2;have:↥(z.cps.toList.drop 1)=↥z-1:=by rw[bB,show z.cps.toList.length=z.length from u7 z]
 show List.take ((↥z:Int)-1).toNat (List.drop 1 z.cps.toList)=_;exact bj nofun
theorem ix_str{i c:Nat}(hl:↥z<=SL)(hc:(cd z)[i]? =some c):ixD h (.str z) (.int (i:Nat))=.ok (.str ⟨#[c]⟩) h:=by
 have hi:=(ac.mp hc).1;have:atI z.cps.toList (i:Int)=some c:=by
  show(ixN ↥(cd z) (i:Int)).bind (λj=>(cd z)[j]?)=some c;have e:ixN ↥(cd z) (i:Int)=some i:=by unfold ixN;rw[az nofun,az nofun];simp
  rw[e];exact hc
 simp only[ixD,az hl,this]
theorem r8{i:Nat}(hw:h[w]? =some (.lst xs))(hd:xs[i]? =some d):ixD h (.ref w) (.int (i:Nat))=.ok d h:=by
 have hi:=(ac.mp hd).1;have:atI xs (i:Int)=some d:=by
  show(ixN ↥xs (i:Int)).bind (λj=>xs[j]?)=some d;have e:ixN ↥xs (i:Int)=some i:=by unfold ixN;rw[az nofun,az nofun];simp
  rw[e];exact hd
 simp only[ixD,hw,this]
variable(W:PF F)
include W
theorem a5U{row:Str}(hr:row.length<=100000):b5 ct F (n+1) 1 [.str row] h=.ok (.ref ↥h) (h++[.lst ((N5 row).map .str)]):=by
 rw[i6 W.f1 rfl];have hs:↥(Txt.split row " ")<=SL:=aU (a9o row 32) (by show _<=16777216;ac_nf);simp only[a1d];simp![];rw[J0 (l:=(Txt.split row " ").map D.str) (g:=[(↥h,.lst ((Txt.split row " ").map D.str))]) (h1:=h++[.lst ((Txt.split row " ").map D.str)]) ?_ (by simp[gOk]) (λd=>match d with|.str w=>decide (w≠"")|_=>false) id (λd=>[some d]) ?_ (by simpa using hs)]
 · simp![];have e:List.map id (List.filter (λd=>match d with|D.str w=>decide (w≠"")|_=>false) ((Txt.split row " ").map D.str))=(N5 row).map D.str:=by rw[map_id,filter_map];rfl
   rw[e,aB];exact gc2 ⋯ ⋯ (C2 _)
 · simp![mtT,mtD,v8];rw[az ⟨by decide,by show _<=16777216;ac_nf⟩];simp only[d9,M3,b7]
 · intro x hx;obtain⟨w,_,rfl⟩:=ao.mp hx;refine⟨rfl,?_,λ_=>?_⟩
   · simp![op2,a3w,eqS];simp
   · simp![id]
theorem a3F{g:Str}(hz:↥z<=100000):b5 ct F (n+1) 2 [.str z,.str g] h=.ok (.bl ((cd z).all λc=>decide (c∈cd g))) h:=by
 rw[i6 W.f2 rfl];simp only[a2j];simp![];rw[o6 (l:=X5 z) (g:=[]) (h1:=h) ?_ (by simp[gOk]) (λd=>match d with|.str w=>.bl (a5j w g)|_=>.non) (λd=>[some d,some (.str g)]) ?_ (by unfold X5;rw[aa,show z.cps.toList.length=z.length from u7 z];show _<=16777216;ac_nf)]
 · have e:(X5 z).map (λd=>match d with|D.str w=>D.bl (a5j w g)|_=>D.non)=(cd z).map λc=>D.bl (decide (c∈cd g)):=by unfold X5;rw[aK];refine aZ λc _=>?_;simp only[Function.comp,a5j];rw[StrLaws.found_one]
   rw[e];simp![X9];exact gc1 rfl
 · simp![M3]
 · intro x hx;unfold X5 at hx;obtain⟨w,_,rfl⟩:=ao.mp hx;refine⟨rfl,?_⟩;simp![op2,M8];simp
theorem G8(hz:↥z<=100000):b5 ct F (n+2) 3 [.str z] h=.ok (.bl (g9 z)) h:=by
 rw[i6 W.f3 rfl];simp only[a2k];have hl:↥z<=SL:=by show _<=16777216;ac_nf
 simp![biD,bi1,biL,az hl,op2,G5,a3F W hz];have e:g9 z=(decide ((1:Int)<=(↥z:Int))&&(decide ((↥z:Int)<=12)&&(cd z).all Q2)):=by
  unfold g9;rw[Bool.and_assoc];congr 1
  · exact decide_eq_decide.mpr nofun
  · congr 1;exact decide_eq_decide.mpr nofun
 rw[e]
 by_cases h1:(1:Int)<=(↥z:Int)
 · by_cases h2:(↥z:Int)<=12
   · simp only[h1,h2,decide_true,if_true,Bool.true_and,d9,a0t];exact u8 rfl
   · simp only[h1,h2,decide_true,decide_false,if_true,Bool.true_and,Bool.false_and,d9,a0t,Bool.false_eq_true,if_false];exact u8 rfl
 · simp only[h1,decide_false,Bool.false_and,d9,a0t,Bool.false_eq_true,if_false];exact u8 rfl
theorem L6(hz:↥z<=100000):b5 ct F (n+2) 4 [.str z] h=.ok (.bl (a2t z)) h:=by
 rw[i6 W.f4 rfl];simp only[a0i];have hl:↥z<=SL:=by show _<=16777216;ac_nf
 have hm:∀h,b5 ct F (n+1) 2 [.str z,.str "0123456789"] h=.ok (.bl ((cd z).all T5)) h:=λh=>a3F W hz;simp![biD,bi1,biL,az hl,op2,G5,hm];have e:a2t z=(decide ((1:Int)<=(↥z:Int))&&(decide ((↥z:Int)<=5)&&((cd z).all T5&&(decide (z="0")||!decide ((cd z).head? =some 48))))):=by
  unfold a2t;rw[Bool.and_assoc,Bool.and_assoc];congr 1
  · exact decide_eq_decide.mpr nofun
  · congr 1;exact decide_eq_decide.mpr nofun
 rw[e]
 by_cases h1:(1:Int)<=(↥z:Int)
 · by_cases h2:(↥z:Int)<=5
   · simp![hm,h1,h2,decide_true,if_true,Bool.true_and,d9,a0t,Bool.not_true,Bool.false_eq_true,if_false,op2];cases hf:(cd z).all T5 with
     |false=>
      simp![hm,Bool.not_false,if_true,Bool.false_and,d9,op2];exact u8 rfl
     | true=>
      obtain⟨c,r,hc⟩:∃c r,cd z=c::r:=by
       cases hq:cd z with
       |nil=>have:=u7 z;rw[hq] at this;simp at this;ac_nf
       |cons c r=>exact⟨c,r,rfl⟩
      have hix:ixD h (.str z) (.int 0)=.ok (.str ⟨#[c]⟩) h:=ix_str (i:=0) hl (by rw[hc];rfl);have h0:decide ((⟨#[c]⟩:Str)="0")=decide ((cd z).head? =some 48):=by rw[hc];refine decide_eq_decide.mpr ?_;rw[show(Str.ofString "0")=⟨#[48]⟩ from rfl];simp
      simp![hm,Bool.not_true,Bool.false_eq_true,if_false,Bool.true_and,d9,J4,a3w,eqS,a0t,hix,h0,op2];cases hz0:decide (z="0") with
      |true=>
       simp![hm,if_true,Bool.true_or,op2];exact u8 rfl
      |false=>
       simp![hm,Bool.false_eq_true,if_false,Bool.false_or,op2];exact u8 rfl
   · simp![hm,h1,h2,decide_true,decide_false,if_true,Bool.true_and,Bool.false_and,d9,a0t,Bool.false_eq_true,if_false,Bool.not_false,op2];exact u8 rfl
 · simp![hm,h1,decide_false,Bool.false_and,d9,a0t,Bool.false_eq_true,if_false,Bool.not_false,if_true,op2];exact u8 rfl
theorem a5u(hz:↥z<=100000):b5 ct F (n+3) 5 [.str z] h=.ok (.bl (a4p z)) h:=by
 rw[i6 W.f5 rfl];simp only[K9];have hl:↥z<=SL:=by show _<=16777216;ac_nf
 have dN:Txt.startswith z "-"=decide ((cd z).head? =some 45):=W2;simp![mtT,mtD,op2,a3w,eqS,slD,az hl,dN,L6 W hz];unfold a4p
 by_cases h1:(cd z).head? =some 45
 · have dX:1<=↥z:=by
    rw[←u7];cases hq:cd z with
    |nil=>rw[hq] at h1;cases h1
    |cons c r=>simp
   have ht:↥(tl z)<=100000:=by rw[←u7,a3P,bB,u7];ac_nf
   simp![h1,decide_true,if_true,a6f z dX,L6 W ht,d9,L6 W hz];cases hz0:decide (z="-0") with
   |true=>
    simp![Bool.not_true,Bool.false_eq_true,if_false,Bool.false_and];exact u8 rfl
   |false=>
    simp![Bool.not_false,if_true,Bool.true_and];exact u8 rfl
 · simp![h1,decide_false,Bool.false_eq_true,if_false,L6 W hz];exact u8 rfl
theorem C8{a b c:Bool}:b5 ct F (n+1) 14 [.bl a,.bl b,.bl c] h=.ok (U8 (due a b c)) h:=by rw[i6 W.f14 rfl];simp only[a0k];simp![];cases a<;>cases b<;>cases c<;>exact u8 rfl
theorem a2p{k:Nat}{P:Str->Bool}{fd:Fn}(hF:F id=some fd)(hb:fd=⟨1,1,1,(.o (.ret (.bi .all (.o (.comp (.nm 0) (.seq (.v 0)) 1 [] .yes (.call k (.o (.v 0))))))))⟩)
 (hw:h[w]? =some (.lst (ws.map D.str))) (hl:↥ws<=SL) (hP:∀x∈ws,b5 ct F n k [.str x] h=.ok (.bl (P x)) h):b5 ct F (n+1) id [.ref w] h=.ok (.bl (ws.all P)) h:=by
  subst hb;rw[i6 hF rfl];simp![];rw[o6 (l:=ws.map D.str) (g:=[(w,.lst (ws.map D.str))]) (h1:=h) ?_ (by simp[gOk,hw]) (λd=>match d with|.str x=>.bl (P x)|_=>.non) (λd=>[some d]) ?_ (by simpa using hl)]
  · have e:(ws.map D.str).map (λd=>match d with|D.str x=>D.bl (P x)|_=>D.non)=ws.map λx=>D.bl (P x):=by rw[aK];rfl
    rw[e];simp![X9];exact gc1 rfl
  · simp![M3,hw]
  · intro x hx;obtain⟨y,hy,rfl⟩:=ao.mp hx;refine⟨rfl,?_⟩;simp![hP y hy]
theorem R7(hw:h[w]? =some (.lst (ws.map D.str)))(hl:↥ws<=SL)(hs:∀x∈ws,↥x<=100000):b5 ct F (n+3) 9 [.ref w] h=.ok (.bl (ws.all g9)) h:=
 a2p (n:=n+2) W W.f9 rfl hw hl λx hx=>G8 W (hs x hx)
theorem a4h(hw:h[w]? =some (.lst (ws.map D.str)))(hl:↥ws<=SL)(hs:∀x∈ws,↥x<=100000):b5 ct F (n+4) 10 [.ref w] h=.ok (.bl (ws.all a4p)) h:=
 a2p (n:=n+3) W W.f10 rfl hw hl λx hx=>a5u W (hs x hx)
end
structure HD where
 shapes:List (Str×D):=[]
 marks:List (Str×D):=[]
 points:List ((Str×Str)×D):=[]
 letters:List (Str×D):=[]
 gaps:List Str:=[]
 classes:List (Str×D):=[]
 features:List (Str×D):=[]
 rules:List (Str×List D):=[]
noncomputable def kd(l:List (Str×D)):List (D×D):=l.map λp=>(.str p.1,p.2)
noncomputable def pd(l:List ((Str×Str)×D)):List (D×D):=l.map λp=>(.tup [.str p.1.1,.str p.1.2],p.2)
noncomputable def rd(l:List (Str×List D)):List D:=l.map λr=>.tup (.str r.1::r.2)
noncomputable def a2g(n:Nat):List (Str×D):=[("shapes",.ref (n+1)),("marks",.ref (n+2)),("points",.ref (n+3)),("letters",.ref (n+4)),("gaps",.ref (n+5)),("classes",.ref (n+6)),("features",.ref (n+7)),("rules",.ref (n+8))]
structure HallAt(h:AH)(n:Nat)(H:HD):Prop where
 o:h[n]? =some (.obj 6 (a2g n))
 c1:h[n+1]? =some (.dict (kd H.shapes))
 c2:h[n+2]? =some (.dict (kd H.marks))
 c3:h[n+3]? =some (.dict (pd H.points))
 c4:h[n+4]? =some (.dict (kd H.letters))
 c5:h[n+5]? =some (.lst (H.gaps.map .str))
 c6:h[n+6]? =some (.dict (kd H.classes))
 c7:h[n+7]? =some (.dict (kd H.features))
 c8:h[n+8]? =some (.lst (rd H.rules))
structure Fr(n:Nat)(h h':AH):Prop where
 len:↥h<=↥h'
 get:∀i,i<↥h->(i<n∨n+8<i)->h'[i]? =h[i]?
theorem Fr.refl(n:Nat)(h:AH):Fr n h h:=⟨aj _,λ_ _ _=>rfl⟩
variable{h':AH}
theorem Fr.trans{h'':AH}(a:Fr n h h')(b:Fr n h' h''):Fr n h h'':=
 ⟨aU a.len b.len,λi hi hn=>(b.get i (aE hi a.len) hn).trans (a.get i hi hn)⟩
theorem Fr.app(n:Nat)(h g:AH):Fr n h (h++g):=⟨by simp,λi hi _=>aw hi⟩
theorem Fr.set{k:Nat}{c:Cell}(h1:n<=k)(h2:k<=n+8):Fr n h (h.set k c):=⟨by simp,λi hi hn=>List.getElem?_set_ne nofun⟩
variable{g:AH}
theorem b6{i:Nat}{c:Cell}(e:h[i]? =some c):(h++g)[i]? =some c:=by rw[aw (ac.mp e).1];exact e
theorem HallAt.app{H:HD}(A:HallAt h n H)(g:AH):HallAt (h++g) n H:=
 ⟨b6 A.o,b6 A.c1,b6 A.c2,b6 A.c3,b6 A.c4,b6 A.c5,b6 A.c6,b6 A.c7,b6 A.c8⟩
variable{c':Cell}
theorem b9{i k:Nat}{c:Cell}(eR:k≠i)(e:h[i]? =some c):(h.set k c')[i]? =some c:=by rw[List.getElem?_set_ne eR];exact e
theorem w6{i:Nat}{c:Cell}(e:h[i]? =some c):(h.set i c')[i]? =some c':=List.getElem?_set_self (ac.mp e).1
theorem HallAt.s1{H:HD}(A:HallAt h n H)(l:List (Str×D)):HallAt (h.set (n+1) (.dict (kd l))) n {H with shapes:=l}:=
 ⟨b9 nofun A.o,w6 A.c1,b9 nofun A.c2,b9 nofun A.c3,b9 nofun A.c4,b9 nofun A.c5,b9 nofun A.c6,b9 nofun A.c7,b9 nofun A.c8⟩
theorem HallAt.s2{H:HD}(A:HallAt h n H)(l:List (Str×D)):HallAt (h.set (n+2) (.dict (kd l))) n {H with marks:=l}:=
 ⟨b9 nofun A.o,b9 nofun A.c1,w6 A.c2,b9 nofun A.c3,b9 nofun A.c4,b9 nofun A.c5,b9 nofun A.c6,b9 nofun A.c7,b9 nofun A.c8⟩
theorem HallAt.s3{H:HD}(A:HallAt h n H)(l:List ((Str×Str)×D)):HallAt (h.set (n+3) (.dict (pd l))) n {H with points:=l}:=
 ⟨b9 nofun A.o,b9 nofun A.c1,b9 nofun A.c2,w6 A.c3,b9 nofun A.c4,b9 nofun A.c5,b9 nofun A.c6,b9 nofun A.c7,b9 nofun A.c8⟩
theorem HallAt.s4{H:HD}(A:HallAt h n H)(l:List (Str×D)):HallAt (h.set (n+4) (.dict (kd l))) n {H with letters:=l}:=
 ⟨b9 nofun A.o,b9 nofun A.c1,b9 nofun A.c2,b9 nofun A.c3,w6 A.c4,b9 nofun A.c5,b9 nofun A.c6,b9 nofun A.c7,b9 nofun A.c8⟩
theorem HallAt.s6{H:HD}(A:HallAt h n H)(l:List (Str×D)):HallAt (h.set (n+6) (.dict (kd l))) n {H with classes:=l}:=
 ⟨b9 nofun A.o,b9 nofun A.c1,b9 nofun A.c2,b9 nofun A.c3,b9 nofun A.c4,b9 nofun A.c5,w6 A.c6,b9 nofun A.c7,b9 nofun A.c8⟩
theorem HallAt.s7{H:HD}(A:HallAt h n H)(l:List (Str×D)):HallAt (h.set (n+7) (.dict (kd l))) n {H with features:=l}:=
 ⟨b9 nofun A.o,b9 nofun A.c1,b9 nofun A.c2,b9 nofun A.c3,b9 nofun A.c4,b9 nofun A.c5,b9 nofun A.c6,w6 A.c7,b9 nofun A.c8⟩
theorem HallAt.s8{H:HD}(A:HallAt h n H)(l:List (Str×List D)):HallAt (h.set (n+8) (.lst (rd l))) n {H with rules:=l}:=
 ⟨b9 nofun A.o,b9 nofun A.c1,b9 nofun A.c2,b9 nofun A.c3,b9 nofun A.c4,b9 nofun A.c5,b9 nofun A.c6,b9 nofun A.c7,w6 A.c8⟩
theorem HallAt.fld1{H:HD}(A:HallAt h n H):W8 h "shapes" (.ref n)=.ok (.ref (n+1)) h:=by simp only[W8,A.o];rfl
theorem HallAt.fld2{H:HD}(A:HallAt h n H):W8 h "marks" (.ref n)=.ok (.ref (n+2)) h:=by simp only[W8,A.o];rfl
theorem HallAt.fld3{H:HD}(A:HallAt h n H):W8 h "points" (.ref n)=.ok (.ref (n+3)) h:=by simp only[W8,A.o];rfl
theorem HallAt.fld4{H:HD}(A:HallAt h n H):W8 h "letters" (.ref n)=.ok (.ref (n+4)) h:=by simp only[W8,A.o];rfl
theorem HallAt.fld5{H:HD}(A:HallAt h n H):W8 h "gaps" (.ref n)=.ok (.ref (n+5)) h:=by simp only[W8,A.o];rfl
theorem HallAt.fld6{H:HD}(A:HallAt h n H):W8 h "classes" (.ref n)=.ok (.ref (n+6)) h:=by simp only[W8,A.o];rfl
theorem HallAt.fld7{H:HD}(A:HallAt h n H):W8 h "features" (.ref n)=.ok (.ref (n+7)) h:=by simp only[W8,A.o];rfl
theorem HallAt.fld8{H:HD}(A:HallAt h n H):W8 h "rules" (.ref n)=.ok (.ref (n+8)) h:=by simp only[W8,A.o];rfl
theorem a0C(k:Str)(l:List (Str×D)):D6 (.str k) (kd l)=true:=by simp[D6,kd,K5]
theorem a8C(a b:Str)(l:List ((Str×Str)×D)):D6 (.tup [.str a,.str b]) (pd l)=true:=by simp[D6,pd,K5,G7,K7]
theorem a7M(k:Str):∀l:List (Str×D),(o0 (kd l) (.str k)).isSome=decide (k∈l.map (·.1))
 |[]=>rfl
 | p ::r=>by
  have ih:=a7M k r;unfold o0 kd at ih⊢;rw[map_cons,List.find?_cons]
  by_cases e:p.1=k
  · simp[e]
  · have e':¬(D.str p.1=D.str k):=λz=>e (by injection z);simp only[e',decide_false];rw[ih];exact decide_eq_decide.mpr ⟨λz=>by simp[z],λz=>by
     rw[map_cons] at z;rcases aH.mp z with z|z
     · exact absurd z.symm e
     · exact z⟩
theorem b2h(a b:Str):∀l:List ((Str×Str)×D),(o0 (pd l) (.tup [.str a,.str b])).isSome=decide ((a,b)∈l.map (·.1))
 |[]=>rfl
 | p ::r=>by
  have ih:=b2h a b r;unfold o0 pd at ih⊢;rw[map_cons,List.find?_cons]
  by_cases e:p.1=(a,b)
  · simp[e]
  · have e':¬(D.tup [.str p.1.1,.str p.1.2]=D.tup [.str a,.str b]):=λz=>e (by injection z with z;injection z with z1 z2;injection z1 with z1;injection z2 with z2;injection z2 with z2;exact Prod.ext z1 z2)
    simp only[e',decide_false];rw[ih];exact decide_eq_decide.mpr ⟨λz=>by simp[z],λz=>by
     rw[map_cons] at z;rcases aH.mp z with z|z
     · exact absurd z.symm e
     · exact z⟩
theorem b6M{k:Str}{l:List (Str×D)}(h:k∉l.map (·.1)):a0V (kd l) (.str k) d=kd (l++[(k,d)]):=by
 unfold a0V;rw[aA]
 · simp[kd]
 · intro z;rw[bq] at z;obtain⟨p,hp,e⟩:=z;unfold kd at hp;obtain⟨q,hq,rfl⟩:=ao.mp hp;have e:=ax e;injection e with e;exact h (ao.mpr ⟨q,hq,e⟩)
theorem b6L{a b:Str}{l:List ((Str×Str)×D)}(h:(a,b)∉l.map (·.1)):a0V (pd l) (.tup [.str a,.str b]) d=pd (l++[((a,b),d)]):=by
 unfold a0V;rw[aA]
 · simp[pd]
 · intro z;rw[bq] at z;obtain⟨p,hp,e⟩:=z;unfold pd at hp;obtain⟨q,hq,rfl⟩:=ao.mp hp;have e:=ax e;injection e with e;injection e with e1 e2;injection e1 with e1;injection e2 with e2;injection e2 with e2;exact h (ao.mpr ⟨q,hq,Prod.ext e1 e2⟩)
theorem Y1{l:List (Str×D)}{k:Str}(e:h[n]? =some (.dict (kd l))):M8 false h (.str k) (.ref n)=.ok (.bl (decide (k∈l.map (·.1)))) h:=by simp only[M8,e,a0C,if_true,a7M];simp
theorem b9Z{l:List ((Str×Str)×D)}{a b:Str}(e:h[n]? =some (.dict (pd l))):M8 false h (.tup [.str a,.str b]) (.ref n)=.ok (.bl (decide ((a,b)∈l.map (·.1)))) h:=by simp only[M8,e,a8C,if_true,b2h];simp
theorem a5o{l:List (Str×D)}(e:h[n]? =some (.dict (kd l))):biD .len h [.ref n]=.ok (.int ↥l) h:=by
 have:D6 (.int 0) (kd l)=true:=by simp[D6,kd,K5]
 simp only[biD,bi1,biL,e,this,if_true];simp[kd]
variable{l:List D}
theorem n9(e:h[n]? =some (.lst l)):biD .len h [.ref n]=.ok (.int ↥l) h:=by
 have:rdL h n=some l:=by unfold rdL;rw[e]
 simp only[biD,bi1,biL,e,this]
section
variable{ct:CT}{F:Nat->Option Fn}(W:PF F)
include W
theorem b2b:b5 ct F (n+1) 32 [.ref ↥h] (h++[.obj 6 []])=.ok .non (h++[.obj 6 (a2g ↥h),.dict [],.dict [],.dict [],.dict [],.lst [],.dict [],.dict [],.lst []]):=by
 rw[i6 W.f32 rfl];simp only[O8];rw[gc0];have hs:∀(x z:Cell) (t:AH),(h++x::t).set ↥h z=h++z::t:=λx z t=>by rw[List.set_append_right _ _ (aj _)];simp
 have hg:∀(x:Cell) (t:AH),(h++x::t)[↥h]? =some x:=λx t=>by simp
 simp![v8,a4Y,hs,hg,aB,a4s];simp only[au,length_cons,length_nil,a2g]
end
theorem v5(i:Int)(k:Nat)(hi:i=(k:Nat))(hw:h[w]? =some (.lst xs))(hd:xs[k]? =some d):ixD h (.ref w) (.int i)=.ok d h:=by subst hi;exact r8 hw hd
theorem V3{l:List (Str×D)}{k:Str}(e:h[n]? =some (.dict (kd l)))(hk:k∉l.map (·.1))(hl:↥l<SL):a0L h (.ref n) (.str k) d=.ok () (h.set n (.dict (kd (l++[(k,d)])))):=by simp only[a0L,e];rw[az ⟨a0C _ _,by simpa [kd] using hl⟩,b6M hk]
theorem a9s{l:List ((Str×Str)×D)}{a b:Str}(e:h[n]? =some (.dict (pd l)))(hk:(a,b)∉l.map (·.1))(hl:↥l<SL):a0L h (.ref n) (.tup [.str a,.str b]) d=.ok () (h.set n (.dict (pd (l++[((a,b),d)])))):=by simp only[a0L,e];rw[az ⟨a8C _ _ _,by simpa [pd] using hl⟩,b6L hk]
theorem a7K{b:Str}{v:Int}(hl:↥b<=640)(hv:intText? b=some v):biD .int h [.str b]=.ok (.int v) h:=by simp only[biD,bi1,biL,az hl,hv]
theorem M1(k:Nat)(xs:List D):P9 xs (some (k:Int)) none=xs.drop k:=by
 unfold P9 HT.sIx;simp only;rw[aA nofun];show(xs.drop (min k ↥xs)).take (↥xs-min k ↥xs)=xs.drop k
 by_cases h:k<=↥xs
 · rw[bg h];exact bj ⋯
 · rw[Nat.min_eq_right nofun,drop_length,List.drop_of_length_le nofun];simp
theorem W0(k l:Nat)(xs:List D)(hk:k<=l)(hl:l<=↥xs):P9 xs (some (k:Int)) (some (l:Int))=(xs.drop k).take (l-k):=by unfold P9 HT.sIx;simp only;rw[aA nofun,aA nofun];show(xs.drop (min k ↥xs)).take (min l ↥xs-min k ↥xs)=_;rw[bg (show k<=↥xs by ac_nf),bg hl]
variable{lo:Option Int}{hi:Option Int}
theorem K6(hw:h[w]? =some (.lst xs)):slD h lo hi (.ref w)=.ok (.ref ↥h) (h++[.lst (P9 xs lo hi)]):=by
 have:rdL h w=some xs:=by unfold rdL;rw[hw]
 simp only[slD,this,v8]
theorem N7(hw:h[w]? =some (.lst xs)):biD .tuple h [.ref w]=.ok (.tup xs) h:=by
 have:rdL h w=some xs:=by unfold rdL;rw[hw]
 simp only[biD,bi1,biL,hw,this]
variable{x:Str}{wy:Str}
section
variable{ct:CT}{F:Nat->Option Fn}(W:PF F)
include W
theorem a4a{k:Nat}{H:HD}{a b:Str}{v:Int}(A:HallAt h n H)(hw:h[w]? =some (.lst [.str x,.str a,.str b]))(ha:g9 a=true)(eM:↥a<=100000)(hb:V5 b=some v):
 b5 ct F (k+3) 17 [.ref n,.ref w] h=match due (decide (a∈H.shapes.map (·.1))) true (decide ((60:Int)<=(↥H.shapes:Int))) with
  |some f=>.ok (.str f) h
  |none=>.ok .non (h.set (n+1) (.dict (kd (H.shapes++[(a,.int v)])))):=by
 obtain⟨hv,hbl,_,_⟩:=a2S hb;have hbn:a2t b=true:=by rw[a3x,hb];rfl
 rw[i6 W.f17 rfl];simp only[W9];rw[gc0];simp![n9 hw,op2,a3w,eqS,v5 1 1 rfl hw rfl,v5 2 2 rfl hw rfl,G8 W eM,L6 W (show ↥b<=100000 by ac_nf),ha,hbn,A.fld1,Y1 A.c1,a5o A.c1,G5,C8 W,V9,a7K hbl hv,Int.cast_ofNat_Int,decide_true,Bool.not_true];cases hd:due (decide (a∈H.shapes.map (·.1))) true (decide ((60:Int)<=(↥H.shapes:Int))) with
 |some f=>simp![Option.isNone_some,U8]
 |none=>
  obtain⟨d1,_,d2⟩:=a0p hd;have d2:=of_decide_eq_false d2;simp![Option.isNone_none,V3 A.c1 (of_decide_eq_false d1) (show _<16777216 by ac_nf),U8]
theorem a2C{k:Nat}{H:HD}{a b:Str}(A:HallAt h n H)(hw:h[w]? =some (.lst [.str x,.str a,.str b]))(ha:g9 a=true)(eM:↥a<=100000)(hb:b="on"∨b="off"):
 b5 ct F (k+3) 25 [.ref n,.ref w] h=match due (decide (a∈H.features.map (·.1))) true (decide ((10:Int)<=(↥H.features:Int))) with
  |some f=>.ok (.str f) h
  |none=>.ok .non (h.set (n+7) (.dict (kd (H.features++[(a,.bl (decide (b="on")))])))):=by
 have cP:inD (.str b) [.str "on",.str "off"]=true:=by rcases hb with rfl|rfl<;>decide
 rw[i6 W.f25 rfl];simp only[S8];rw[gc0];simp![n9 hw,op2,a3w,J4,eqS,v5 1 1 rfl hw rfl,v5 2 2 rfl hw rfl,G8 W eM,ha,A.fld7,Y1 A.c7,a5o A.c7,G5,C8 W,V9,cP,y7,all_cons,all_nil,Bool.and_self,and_self,bne_self_eq_false,Int.cast_ofNat_Int,decide_true,Bool.not_true];cases hd:due (decide (a∈H.features.map (·.1))) true (decide ((10:Int)<=(↥H.features:Int))) with
 |some f=>simp![Option.isNone_some,U8]
 |none=>
  obtain⟨d1,_,d2⟩:=a0p hd;have d2:=of_decide_eq_false d2;simp![Option.isNone_none,op2,J4,eqS,v5 2 2 rfl hw rfl,A.fld7,V3 A.c7 (of_decide_eq_false d1) (show _<16777216 by ac_nf),U8]
theorem U6{k:Nat}{H:HD}(A:HallAt h n H)(hw:h[w]? =some (.lst (ws.map .str)))(hl:↥ws<=SL):b5 ct F (k+1) 15 [.ref n,.ref w] h=.ok (.bl (ws.all λx=>decide (x∈H.shapes.map (·.1)))) h:=by
 rw[i6 W.f15 rfl];simp only[X4];simp![];rw[o6 (l:=ws.map D.str) (g:=[(w,.lst (ws.map D.str))]) (h1:=h) ?_ (by simp[gOk,hw]) (λd=>match d with|.str x=>.bl (decide (x∈H.shapes.map (·.1)))|_=>.non) (λd=>[some d,~~~n]) ?_ (by simpa using hl)]
 · have e:(ws.map D.str).map (λd=>match d with|D.str x=>D.bl (decide (x∈H.shapes.map (·.1)))|_=>D.non)=ws.map λx=>D.bl (decide (x∈H.shapes.map (·.1))):=by rw[aK];rfl
   rw[e];simp![X9];exact gc1 rfl
 · simp![M3,hw]
 · intro x hx;obtain⟨y,hy,rfl⟩:=ao.mp hx;refine⟨rfl,?_⟩;simp![op2,A.fld1,Y1 A.c1]
noncomputable def a3I:List (D×D):=[(.str "none",.int 1),(.str "clear",.int 1),(.str "back",.int 2),(.str "both",.int 4)]
theorem a4g{k:Nat}{a j:Str}{i7:List Str}(hw:h[w]? =some (.lst (.str x::.str a::.str j::.str wy::i7.map .str)))(ha:g9 a=true)(eM:↥a<=100000)(hj:o0 a3I (.str j)=some (.int i7.length))(hy:inD (.str wy) [.str "left",.str "right",.str "either"]=true)
 (hr:i7.all g9=true) (hrl:∀y∈i7,↥y<=100000) (hrs:i7.length<=100000):b5 ct F (k+4) 21 [.ref w] h=.ok (.bl true) h:=by
 rw[i6 W.f21 rfl];simp only[L8];have e4:∀xs,P9 xs (some 4) none=xs.drop 4:=M1 4;have hn:b5 ct F (k+3) 9 [.ref ↥h] (h++[.lst (i7.map .str)])=.ok (.bl (i7.all g9)) (h++[.lst (i7.map .str)]):=R7 W b7 (by show _<=16777216;ac_nf) hrl;have bU:decide (((i7.length+1+1+1+1:Nat):Int)<4)=false:=bA nofun;unfold a3I at hj;simp![n9 hw,op2,G5,bU,aa,v5 1 1 rfl hw rfl,v5 2 2 rfl hw rfl,v5 3 3 rfl hw rfl,G8 W eM,ha,K7,Option.isSome_some,hj,hy,y7,all_cons,all_nil,Bool.and_self,and_self,bne_self_eq_false,Bool.not_true,K6 hw,e4,drop_succ_cons,drop_zero,n9 b7,v5 2 2 rfl (b6 (g:=[.lst (i7.map .str)]) hw) rfl,J4,eqS,decide_true,hn,hr];exact gc1 rfl
theorem a3d{k:Nat}{H:HD}{a j:Str}{i7:List Str}(A:HallAt h n H)(hw:h[w]? =some (.lst (.str x::.str a::.str j::.str wy::i7.map .str)))(ha:g9 a=true)(eM:↥a<=100000)(hj:o0 a3I (.str j)=some (.int i7.length))(hy:inD (.str wy) [.str "left",.str "right",.str "either"]=true)
 (hr:i7.all g9=true) (hrl:∀y∈i7,↥y<=100000) (hrs:i7.length<=100000):
 b5 ct F (k+5) 22 [.ref n,.ref w] h=match due (decide (a∈H.letters.map (·.1))) (i7.all λx=>decide (x∈H.shapes.map (·.1))) (decide ((24:Int)<=(↥H.letters:Int))) with
  |some f=>.ok (.str f) (h++[.lst (i7.map .str)])
  |none=>.ok .non ((h++[Cell.lst (i7.map .str)]).set (n+4) (.dict (kd (H.letters++[(a,D.tup [.str j,.str wy,.tup (i7.map .str)])])))):=by
 rw[i6 W.f22 rfl];simp only[U7];rw[gc0];have e4:∀xs,P9 xs (some 4) none=xs.drop 4:=M1 4;have A1:=A.app [.lst (i7.map .str)];have hw1:=b6 (g:=[.lst (i7.map .str)]) hw;have hs:=U6 (ct:=ct) (k:=k+3) W A1 (b7 (h:=h)) (by show _<=16777216;ac_nf);simp![a4g W hw ha eM hj hy hr hrl hrs,Bool.not_true,v5 1 1 rfl hw rfl,K6 hw,e4,drop_succ_cons,drop_zero,op2,A1.fld4,Y1 A1.c4,a5o A1.c4,G5,hs,C8 W,V9];cases hd:due (decide (a∈H.letters.map (·.1))) (i7.all λx=>decide (x∈H.shapes.map (·.1))) (decide ((24:Int)<=(↥H.letters:Int))) with
 |some f=>simp![Option.isNone_some,U8]
 |none=>
  obtain⟨d1,_,d2⟩:=a0p hd;have d2:=of_decide_eq_false d2;simp![Option.isNone_none,v5 2 2 rfl hw1 rfl,v5 3 3 rfl hw1 rfl,N7 b7,A1.fld4,V3 A1.c4 (of_decide_eq_false d1) (show _<16777216 by ac_nf),U8]
theorem a4c{k:Nat}{H:HD}{a:Str}{i7:List Str}(A:HallAt h n H)(hw:h[w]? =some (.lst (.str x::.str a::i7.map .str)))(ha:g9 a=true)(eM:↥a<=100000)
 (hr:i7.all g9=true) (hrl:∀y∈i7,↥y<=100000) (hr1:1<=i7.length) (hr2:i7.length<=20):
 b5 ct F (k+5) 24 [.ref n,.ref w] h=match due (decide (a∈H.classes.map (·.1))) (i7.all λx=>decide (x∈H.shapes.map (·.1))) (decide ((20:Int)<=(↥H.classes:Int))) with
  |some f=>.ok (.str f) (h++[.lst (i7.map .str),.lst (.str a::i7.map .str)])
  |none=>.ok .non ((h++[Cell.lst (i7.map .str),Cell.lst (.str a::i7.map .str)]).set (n+6) (.dict (kd (H.classes++[(a,D.tup (i7.map .str))])))):=by
 rw[i6 W.f24 rfl];simp only[X1];rw[gc0];have e1:∀xs,P9 xs (some 1) none=xs.drop 1:=M1 1;have e2:∀xs,P9 xs (some 2) none=xs.drop 2:=M1 2;have hw1:=b6 (g:=[.lst (i7.map .str)]) hw;have hw2:=b6 (g:=[.lst (.str a::i7.map .str)]) hw1;have A2:=(A.app [.lst (i7.map .str)]).app [.lst (.str a::i7.map .str)];have hq:(h++[Cell.lst (i7.map .str)]++[.lst (.str a::i7.map .str)])[↥h]? =some (.lst (i7.map .str)):=b6 b7;have hs:=U6 (ct:=ct) (k:=k+3) W A2 hq (by show _<=16777216;ac_nf);have hn:b5 ct F (k+4) 9 [.ref ↥(h++[Cell.lst (i7.map .str)])] (h++[Cell.lst (i7.map .str)]++[.lst (.str a::i7.map .str)])=.ok (.bl true) (h++[Cell.lst (i7.map .str)]++[.lst (.str a::i7.map .str)]):=by
  have:=R7 (ct:=ct) (n:=k+1) (ws:=a::i7) W (b7 (h:=h++[Cell.lst (i7.map .str)]) (c:=.lst (.str a::i7.map .str))) (by show _<=16777216;simp;ac_nf) (λy hy=>by
   rcases aH.mp hy with rfl|hy
   · exact eM
   · exact hrl y hy)
  rw[all_cons,ha,hr] at this;exact this
 have l1:decide ((1:Int)<=(i7.length:Int))=true:=bf nofun;have l2:decide ((i7.length:Int)<=20)=true:=bf nofun;simp![K6 hw,e2,drop_succ_cons,drop_zero,n9 b7,aa,op2,G5,l1,l2,Bool.not_true,K6 hw1,e1,hn,v5 1 1 rfl hw2 rfl,A2.fld6,Y1 A2.c6,a5o A2.c6,hs,C8 W,V9];rw[show h++[Cell.lst (i7.map D.str),.lst (.str a::i7.map .str)]=h++[Cell.lst (i7.map .str)]++[.lst (.str a::i7.map .str)] by simp];cases hd:due (decide (a∈H.classes.map (·.1))) (i7.all λx=>decide (x∈H.shapes.map (·.1))) (decide ((20:Int)<=(↥H.classes:Int))) with
 |some f=>simp![Option.isNone_some,U8]
 |none=>
  obtain⟨d1,_,d2⟩:=a0p hd;have d2:=of_decide_eq_false d2;simp![Option.isNone_none,N7 hq,A2.fld6,V3 A2.c6 (of_decide_eq_false d1) (show _<16777216 by ac_nf),U8]
end
theorem B0{l:AH}{i:Nat}:(h++l)[↥h+i]? =l[i]? :=by rw[av nofun];congr 1;ac_nf
theorem b3S{l:AH}{i:Nat}{c:Cell}:(h++l).set (↥h+i) c=h++l.set i c:=by rw[List.set_append_right _ _ nofun];congr 2;ac_nf
theorem b6D{i:Nat}{c:Cell}(e:h[i]? =some c):h.set i c=h:=by
 refine ext_getElem? λj=>?_
 by_cases hj:i=j
 · subst hj;rw[List.getElem?_set_self (ac.mp e).1,e]
 · rw[List.getElem?_set_ne hj]
theorem b5M:atI (xs++[d]) (-1)=some d:=by unfold atI ixN;rw[aA nofun,az (by simp;ac_nf)];simp only[Option.bind_some];rw[show((-1:Int)+(↥(xs++[d]):Int)).toNat=xs.length by simp;ac_nf];simp
noncomputable def J9(x:Str):Bool:=decide (x="/")||decide (x=">")
theorem a6F:M8 false h (.str x) (.tup [.str "/",.str ">"])=.ok (.bl (J9 x)) h:=by
 have e:inD (.str x) [.str "/",.str ">"]=J9 x:=by show((Str.ofString "/"==x)||((Str.ofString ">"==x)||false))=(decide (x="/")||decide (x=">"));rw[Bool.or_false,Bool.eq_iff_iff,br,br,beq_iff_eq,beq_iff_eq,decide_eq_true_iff,decide_eq_true_iff];exact⟨λz=>z.imp Eq.symm Eq.symm,λz=>z.imp Eq.symm Eq.symm⟩
 simp only[M8,y7,all_cons,all_nil,Bool.and_self,if_true,e];cases J9 x<;>rfl
theorem a3s{l:AH}{i:Nat}(e:l[i]? =some (.lst xs)):rdL (h++l) (↥h+i)=some xs:=by unfold rdL;rw[B0,e]
theorem a1o{l:AH}{i:Nat}(e:l[i]? =some (.lst xs))(hl:↥xs<SL):mtD .append (h++l) (.ref (↥h+i)) [d]=.ok .non (h++l.set i (.lst (xs++[d]))):=by simp only[mtD,B0,e,az hl,b3S]
theorem a2Z{α:Type}(f:α×α->Bool):∀l:List α,(∀x∈l,f (x,x)=true)->(l.zip l).all f=true
 |[],_=>rfl
 |x::r,h=>by rw[List.zip_cons_cons,all_cons,h x (.head _),a2Z f r λy hy=>h y (.tail _ hy)];rfl
theorem a2N{x:D}(hf:y7 x=true):∀n,same h n x x=true
 |0=>by rw[same,hf,bf rfl];rfl
 |n+1=>by cases x<;>first|(cases hf;done)|(simp[same,y7])
variable{j:Nat}
theorem a3o{i:Nat}(hi:rdL h i=some l)(hj:rdL h j=some l)(hs:∀x∈l,same h n x x=true):same h (n+1) (.ref i) (.ref j)=true:=by simp only[same,hi,hj];rw[decide_true,a2Z _ l hs];rfl
theorem b7t{l:AH}{i:Nat}(e1:l[i]? =some (.lst xs))(e2:l[j]? =some (.lst xs))(hf:∀x∈xs,y7 x=true):op2 .ne (h++l) (.ref (↥h+i)) (.ref (↥h+j))=.ok (.bl false) (h++l):=by have:b6g (h++l) (.ref (↥h+i)) (.ref (↥h+j))=true:=a3o (a3s e1) (a3s e2) λx hx=>a2N (hf x hx) _;simp only[op2,a3w,eqS,this,if_true]
section
variable{ct:CT}{c:CF}{q:Nat}{S:List D}
theorem a3q:∀(L:List Str) (l:AH) (R P:List D) (e:Option D) (i7:List D),l[1]? =some (.lst (R++[.ref (↥h+q)]))->l[q]? =some (.lst P)->l[3]? =some (.lst S)->q≠1->q≠3->(∀x∈L,J9 x=false)->↥P+↥L<=100000→
 ∃e',K8 [(↥h+3,.lst S)] (.nm 3) (exs ct c rpB) (L.map D.str++i7) [~~~w,some (.ref (↥h+1)),some (.ref (↥h+2)),e] (h++l)=
  K8 [(↥h+3,.lst S)] (.nm 3) (exs ct c rpB) i7 [~~~w,some (.ref (↥h+1)),some (.ref (↥h+2)),e'] (h++l.set q (.lst (P++L.map D.str)))
 |[],l,R,P,e,i7,h1,h2,h3,q1,q3,_,_=>⟨e,by rw[map_nil,bc,b6D h2,nil_append]⟩
 | x::L,l,R,P,e,i7,h1,h2,h3,q1,q3,hL,hs=>by
  rw[length_cons] at hs;have hx:=hL x ba;obtain⟨e',ih⟩:=a3q L (l.set q (.lst (P++[.str x]))) R (P++[.str x]) (some (.str x)) i7 (by rw[List.getElem?_set_ne q1];exact h1) (List.getElem?_set_self (ac.mp h2).1) (by rw[List.getElem?_set_ne q3];exact h3) q1 q3 (λy hy=>hL y (aF _ hy)) (by simp;ac_nf);refine⟨e',?_⟩;have hg:gOk [(↥h+3,Cell.lst S)] (h++l)=true:=by simp[gOk,B0,h3]
  rw[map_cons,cons_append,K8,az hg];simp only[F7];have hix:ixD (h++l) (.ref (↥h+1)) (.int (-1))=.ok (.ref (↥h+q)) (h++l):=by simp only[ixD,B0,h1,b5M]
  have hmt:mtT .append (h++l) (.ref (↥h+q))=true:=by simp only[mtT,a3s h2,Option.isSome_some]
  have hap:=a1o (h:=h) (d:=D.str x) h2 (show ↥P<16777216 by ac_nf);simp only[rpB];simp![op2,a6F,hx,hix,hmt,hap];rw[List.set_set] at ih;rw[aB] at ih;exact ih
theorem a5a(x:Str)(l:AH)(R B:List D)(e:Option D)(i7:List D)(h1:l[1]? =some (.lst R))(h2:l[2]? =some (.lst B))(h3:l[3]? =some (.lst S))(hx:J9 x=true)(hR:R.length<=1000)(hB:B.length<=1000):
 ∃e',K8 [(↥h+3,.lst S)] (.nm 3) (exs ct c rpB) (D.str x::i7) [~~~w,some (.ref (↥h+1)),some (.ref (↥h+2)),e] (h++l)=
  K8 [(↥h+3,.lst S)] (.nm 3) (exs ct c rpB) i7 [~~~w,some (.ref (↥h+1)),some (.ref (↥h+2)),e'] (h++((l.set 2 (.lst (B++[.str x]))).set 1 (.lst (R++[.ref (↥h+↥l)]))++[.lst []])):=by
 refine⟨some (.str x),?_⟩;have hg:gOk [(↥h+3,Cell.lst S)] (h++l)=true:=by simp[gOk,B0,h3]
 rw[K8,az hg];simp only[F7];have dW:mtT .append (h++l) (.ref (↥h+2))=true:=by simp only[mtT,a3s h2,Option.isSome_some]
 have ha2:=a1o (h:=h) (d:=D.str x) h2 (show B.length<16777216 by ac_nf);have h1':(l.set 2 (Cell.lst (B++[.str x])))[1]? =some (.lst R):=by rw[List.getElem?_set_ne ∅];exact h1
 have hm1:mtT .append (h++l.set 2 (.lst (B++[.str x]))) (.ref (↥h+1))=true:=by simp only[mtT,a3s h1',Option.isSome_some]
 have h1'':(l.set 2 (Cell.lst (B++[.str x]))++[.lst []])[1]? =some (.lst R):=b6 h1';have ha1:mtD .append (h++l.set 2 (.lst (B++[.str x]))++[.lst []]) (.ref (↥h+1)) [.ref ↥(h++l.set 2 (.lst (B++[.str x])))]=.ok .non (h++((l.set 2 (.lst (B++[.str x]))).set 1 (.lst (R++[.ref (↥h+↥l)]))++[.lst []])):=by rw[aB,a1o h1'' (show R.length<16777216 by ac_nf)];have hl:1<↥(l.set 2 (Cell.lst (B++[.str x]))):=(ac.mp h1').1;rw[List.set_append_left _ _ hl];simp
 simp only[rpB];simp![op2,a6F,hx,dW,ha2,hm1,v8,ha1]
end
noncomputable def j9(bK bH bO bJ:List Str):List Str:=bK++("/":Str)::(bH++("/":Str)::(bO++(">":Str)::bJ))
def a0y(n:Nat)(bK bH bO bJ:List Str):AH:=[.lst (bK.map .str),.lst [.ref n,.ref (n+4),.ref (n+5),.ref (n+6)],.lst [.str "/",.str "/",.str ">"],.lst ((j9 bK bH bO bJ).map .str),.lst (bH.map .str),.lst (bO.map .str),.lst (bJ.map .str),.lst [.str "/",.str "/",.str ">"]]
variable{f:Str}{bK:List Str}{bH:List Str}{bO:List Str}{bJ:List Str}
section
variable{ct:CT}{F:Nat->Option Fn}(W:PF F)
include W
theorem a0M{k:Nat}{t:Str}(hw:h[w]? =some (.lst (.str x::.str t::.str f::(j9 bK bH bO bJ).map .str)))
 (pl:∀y∈bK++bH++bO++bJ,J9 y=false) (hl:↥(bK++bH++bO++bJ)<=1000):b5 ct F (k+1) 28 [.ref w] h=.ok (.ref (↥h+1)) (h++a0y ↥h bK bH bO bJ):=by
 rw[i6 W.f28 rfl];have hf:X2=⟨1,4,0,(.set 1 (.lst (.o (.lst .nil)))>=>.set 2 (.lst .nil)>=>.for (.nm 3) (.seq (.sl (.v 0) (.at (.i 3)) .no)) rpB>=>.iff (.cmp .ne (.v 2) (.lst (.s "/">=>.s "/">=>.o (.s ">")))) (.o (.ret (.k .non))) .nil>=>.o (.ret (.v 1)))⟩:=rfl;simp only[hf];rw[gc0];have e3:∀xs,P9 xs (some 3) none=xs.drop 3:=M1 3;have hw':=b6 (g:=[Cell.lst [],.lst [.ref ↥h],.lst []]) hw;simp only[au] at hl;have m1:∀y∈bK,J9 y=false:=λy hy=>pl y (by simp[hy]);have m2:∀y∈bH,J9 y=false:=λy hy=>pl y (by simp[hy]);have m3:∀y∈bO,J9 y=false:=λy hy=>pl y (by simp[hy]);have m4:∀y∈bJ,J9 y=false:=λy hy=>pl y (by simp[hy]);have ps:J9 "/"=true:=by decide
 have pg:J9 ">"=true:=by decide
 obtain⟨e1,s1⟩:=a3q (c:=b5 ct F k) (h:=h) (w:=w) (q:=0) (S:=(j9 bK bH bO bJ).map D.str) bK [.lst [],.lst [.ref ↥h],.lst [],.lst ((j9 bK bH bO bJ).map D.str)] [] [] none ((("/":Str)::(bH++("/":Str)::(bO++(">":Str)::bJ))).map D.str) rfl rfl rfl ∅ ∅ m1 (by simp;ac_nf);obtain⟨e2,s2⟩:=a5a (c:=b5 ct F k) (h:=h) (w:=w) (S:=(j9 bK bH bO bJ).map D.str) "/" [.lst (bK.map .str),.lst [.ref ↥h],.lst [],.lst ((j9 bK bH bO bJ).map D.str)] [.ref ↥h] [] e1 ((bH++("/":Str)::(bO++(">":Str)::bJ)).map D.str) rfl rfl rfl ps ⋯ ⋯;obtain⟨e3',s3⟩:=a3q (c:=b5 ct F k) (h:=h) (w:=w) (q:=4) (S:=(j9 bK bH bO bJ).map D.str) bH [.lst (bK.map .str),.lst [.ref ↥h,.ref (↥h+4)],.lst [.str "/"],.lst ((j9 bK bH bO bJ).map D.str),.lst []] [.ref ↥h] [] e2 ((("/":Str)::(bO++(">":Str)::bJ)).map D.str) rfl rfl rfl ∅ ∅ m2 (by simp;ac_nf);obtain⟨e4,s4⟩:=a5a (c:=b5 ct F k) (h:=h) (w:=w) (S:=(j9 bK bH bO bJ).map D.str) "/" [.lst (bK.map .str),.lst [.ref ↥h,.ref (↥h+4)],.lst [.str "/"],.lst ((j9 bK bH bO bJ).map D.str),.lst (bH.map .str)] [.ref ↥h,.ref (↥h+4)] [.str "/"] e3' ((bO++(">":Str)::bJ).map D.str) rfl rfl rfl ps ⋯ ⋯;obtain⟨e5,s5⟩:=a3q (c:=b5 ct F k) (h:=h) (w:=w) (q:=5) (S:=(j9 bK bH bO bJ).map D.str) bO [.lst (bK.map .str),.lst [.ref ↥h,.ref (↥h+4),.ref (↥h+5)],.lst [.str "/",.str "/"],.lst ((j9 bK bH bO bJ).map D.str),.lst (bH.map .str),.lst []] [.ref ↥h,.ref (↥h+4)] [] e4 (((">":Str)::bJ).map D.str) rfl rfl rfl ∅ ∅ m3 (by simp;ac_nf);obtain⟨e6,s6⟩:=a5a (c:=b5 ct F k) (h:=h) (w:=w) (S:=(j9 bK bH bO bJ).map D.str) ">" [.lst (bK.map .str),.lst [.ref ↥h,.ref (↥h+4),.ref (↥h+5)],.lst [.str "/",.str "/"],.lst ((j9 bK bH bO bJ).map D.str),.lst (bH.map .str),.lst (bO.map .str)] [.ref ↥h,.ref (↥h+4),.ref (↥h+5)] [.str "/",.str "/"] e5 (bJ.map D.str) rfl rfl rfl pg ⋯ ⋯;obtain⟨e7,s7⟩:=a3q (c:=b5 ct F k) (h:=h) (w:=w) (q:=6) (S:=(j9 bK bH bO bJ).map D.str) bJ [.lst (bK.map .str),.lst [.ref ↥h,.ref (↥h+4),.ref (↥h+5),.ref (↥h+6)],.lst [.str "/",.str "/",.str ">"],.lst ((j9 bK bH bO bJ).map D.str),.lst (bH.map .str),.lst (bO.map .str),.lst []] [.ref ↥h,.ref (↥h+4),.ref (↥h+5)] [] e6 [] rfl rfl rfl ∅ ∅ m4 (by simp;ac_nf);have sx:(j9 bK bH bO bJ).map D.str=bK.map D.str++(("/":Str)::(bH++("/":Str)::(bO++(">":Str)::bJ))).map D.str:=by unfold j9;rw[aq]
 have all:K8 [(↥h+3,.lst ((j9 bK bH bO bJ).map D.str))] (.nm 3) (exs ct (b5 ct F k) rpB) ((j9 bK bH bO bJ).map D.str) [~~~w,some (.ref (↥h+1)),some (.ref (↥h+2)),none] (h++[.lst [],.lst [.ref ↥h],.lst [],.lst ((j9 bK bH bO bJ).map D.str)])=
  .ok (.nx [~~~w,some (.ref (↥h+1)),some (.ref (↥h+2)),e7]) (h++[.lst (bK.map .str),.lst [.ref ↥h,.ref (↥h+4),.ref (↥h+5),.ref (↥h+6)],.lst [.str "/",.str "/",.str ">"],.lst ((j9 bK bH bO bJ).map D.str),.lst (bH.map .str),.lst (bO.map .str),.lst (bJ.map .str)]):=by
  rw[←sx] at s1;refine s1.trans ?_;refine s2.trans ?_;rw[aq];refine s3.trans ?_;refine s4.trans ?_;rw[aq];refine s5.trans ?_;refine s6.trans ?_;rw[bc] at s7;refine s7.trans ?_;rw[K8,az (by simp[gOk,B0])];rfl
 simp![v8,aB,K6 hw',e3,drop_succ_cons,drop_zero,M3,au,B0,all];have eR:op2 .ne (h++[Cell.lst (bK.map D.str),.lst [.ref ↥h,.ref (↥h+4),.ref (↥h+5),.ref (↥h+6)],.lst [.str "/",.str "/",.str ">"],.lst ((j9 bK bH bO bJ).map D.str),.lst (bH.map .str),.lst (bO.map .str),.lst (bJ.map .str),.lst [.str "/",.str "/",.str ">"]]) (.ref (↥h+2)) (.ref (↥h+7))=
  .ok (.bl false) (h++[Cell.lst (bK.map D.str),.lst [.ref ↥h,.ref (↥h+4),.ref (↥h+5),.ref (↥h+6)],.lst [.str "/",.str "/",.str ">"],.lst ((j9 bK bH bO bJ).map D.str),.lst (bH.map .str),.lst (bO.map .str),.lst (bJ.map .str),.lst [.str "/",.str "/",.str ">"]]):=by
  exact b7t rfl rfl ∅
 simp![eR];rfl
end
def O3(z:Str):Bool:=decide ((cd z).head? =some 64)&&g9 (tl z)
def U5(z:Str):Bool:=g9 z||O3 z
def N1(H:HD)(z:Str):Bool:=if O3 z then decide (tl z∈H.classes.map (·.1)) else decide (z∈H.shapes.map (·.1))
theorem a6G{c:Nat}(h:(cd z).head? =some c):1<=↥z:=by
 rw[←u7];cases hq:cd z with
 |nil=>rw[hq] at h;cases h
 |cons c r=>simp
theorem b8X(z:Str):↥(tl z)<=↥z:=by rw[←u7,←u7,a3P,bB];ac_nf
section
variable{ct:CT}{F:Nat->Option Fn}(W:PF F)
include W
theorem a0q(h1:1<=↥z)(hz:↥z<=100000):b5 ct F (n+1) 6 [.str z] h=.ok (.str (tl z)) h:=by
 rw[i6 W.f6 rfl];simp only[Q7];have hl:↥z<=SL:=by show _<=16777216;ac_nf
 have ha:↥(Str.ofString "@")=1:=by decide
 simp![biD,bi1,biL,ha,slD,az hl,Int.cast_ofNat_Int];rw[a6f z h1];exact u8 rfl
theorem a2w(hz:↥z<=100000):b5 ct F (n+3) 7 [.str z] h=.ok (.bl (O3 z)) h:=by
 rw[i6 W.f7 rfl];simp only[Q4];have dN:Txt.startswith z "@"=decide ((cd z).head? =some 64):=W2;unfold O3
 by_cases h1:(cd z).head? =some 64
 · have dX:=a6G h1;have ht:↥(tl z)<=100000:=aU (b8X z) hz;simp![mtT,mtD,dN,h1,decide_true,a0q W dX hz,G8 W ht,Bool.true_and];exact u8 rfl
 · simp![mtT,mtD,dN,h1,decide_false,Bool.false_and];exact u8 rfl
theorem a7I(hz:↥z<=100000):b5 ct F (n+4) 8 [.str z] h=.ok (.bl (U5 z)) h:=by
 rw[i6 W.f8 rfl];simp only[a2l];unfold U5;simp![G8 W hz,a2w W hz];cases g9 z with
 |true=>simp![Bool.true_or];exact u8 rfl
 |false=>simp![Bool.false_or];exact u8 rfl
theorem a5S(hw:h[w]? =some (.lst (ws.map D.str)))(hl:↥ws<=SL)(hs:∀x∈ws,↥x<=100000):b5 ct F (n+5) 11 [.ref w] h=.ok (.bl (ws.all U5)) h:=
 a2p (n:=n+4) W W.f11 rfl hw hl λx hx=>a7I W (hs x hx)
theorem a6I{k:Nat}{H:HD}(A:HallAt h n H)(hz:↥z<=100000):b5 ct F (k+4) 30 [.ref n,.str z] h=.ok (.bl (N1 H z)) h:=by
 rw[i6 W.f30 rfl];simp only[a1g];unfold N1;simp![a2w W hz];cases hc:O3 z with
 | true=>
  have dX:1<=↥z:=by unfold O3 at hc;rw[ae] at hc;exact a6G (ax hc.1)
  simp![a0q W dX hz,A.fld6,op2,Y1 A.c6];exact u8 rfl
 |false=>
  simp![A.fld1,op2,Y1 A.c1];exact u8 rfl
theorem a5z{k:Nat}{H:HD}(A:HallAt h n H)(hw:h[w]? =some (.lst (ws.map .str)))(hl:↥ws<=SL)(hs:∀x∈ws,↥x<=100000):b5 ct F (k+5) 29 [.ref n,.ref w] h=.ok (.bl (ws.all (N1 H))) h:=by
 rw[i6 W.f29 rfl];simp only[a0j];simp![];rw[o6 (l:=ws.map D.str) (g:=[(w,.lst (ws.map D.str))]) (h1:=h) ?_ (by simp[gOk,hw]) (λd=>match d with|.str x=>.bl (N1 H x)|_=>.non) (λd=>[some d,~~~n]) ?_ (by simpa using hl)]
 · have e:(ws.map D.str).map (λd=>match d with|D.str x=>D.bl (N1 H x)|_=>D.non)=ws.map λx=>D.bl (N1 H x):=by rw[aK];rfl
   rw[e];simp![X9];exact gc1 rfl
 · simp![M3,hw]
 · intro x hx;obtain⟨y,hy,rfl⟩:=ao.mp hx;refine⟨rfl,?_⟩;simp![a6I W A (hs y hy)]
theorem a6H{k:Nat}{H:HD}{t:Str}(A:HallAt h n H)(hl:↥H.rules<=100000):b5 ct F (k+1) 31 [.ref n,.str t] h=.ok (.bl (decide (t∈H.rules.map (·.1)))) h:=by
 rw[i6 W.f31 rfl];simp only[a1f];simp![];rw[o6 (l:=rd H.rules) (g:=[(n+8,.lst (rd H.rules))]) (h1:=h) ?_ (by simp[gOk,A.c8]) (λd=>match d with|.tup (.str x::_)=>.bl (decide (x=t))|_=>.non) (λd=>[some d,some (.str t)]) ?_ (by simp[rd];show _<=16777216;ac_nf)]
 · have e:(rd H.rules).map (λd=>match d with|D.tup (D.str x::_)=>D.bl (decide (x=t))|_=>D.non)=H.rules.map λr=>D.bl (decide (r.1=t)):=by unfold rd;rw[aK];rfl
   rw[e];simp![b5N];have e2:(H.rules.any λr=>decide (r.1=t))=decide (t∈H.rules.map (·.1)):=by rw[Bool.eq_iff_iff,bq,decide_eq_true_iff,ao];exact⟨λ⟨r,h1,h2⟩=>⟨r,h1,ax h2⟩,λ⟨r,h1,h2⟩=>⟨r,h1,bf h2⟩⟩
   rw[e2];exact gc1 rfl
 · simp![A.fld8,M3,A.c8]
 · intro x hx;unfold rd at hx;obtain⟨y,hy,rfl⟩:=ao.mp hx;refine⟨rfl,?_⟩;have:atI (D.str y.1::y.2) 0=some (D.str y.1):=by simp[atI,ixN]
   simp![ixD,this,op2,J4,eqS]
end
theorem a6K{l:AH}:(h++l)[↥h]? =l[0]? :=B0 (i:=0)
structure RP(g:AH)(n:Nat)(bK bH bO bJ:List Str):Prop where
 l:g[n+1]? =some (.lst [.ref n,.ref (n+4),.ref (n+5),.ref (n+6)])
 p0:g[n]? =some (.lst (bK.map .str))
 p1:g[n+4]? =some (.lst (bH.map .str))
 p2:g[n+5]? =some (.lst (bO.map .str))
 p3:g[n+6]? =some (.lst (bJ.map .str))
theorem RP.mk':RP (h++a0y ↥h bK bH bO bJ) ↥h bK bH bO bJ:=
 ⟨B0,a6K,B0,B0,B0⟩
theorem RP.app(r:RP g n bK bH bO bJ)(t:AH):RP (g++t) n bK bH bO bJ:=⟨b6 r.l,b6 r.p0,b6 r.p1,b6 r.p2,b6 r.p3⟩
theorem RP.i0(r:RP g n bK bH bO bJ):ixD g (.ref (n+1)) (.int 0)=.ok (.ref n) g:=v5 0 0 rfl r.l rfl
theorem RP.i1(r:RP g n bK bH bO bJ):ixD g (.ref (n+1)) (.int 1)=.ok (.ref (n+4)) g:=v5 1 1 rfl r.l rfl
theorem RP.i2(r:RP g n bK bH bO bJ):ixD g (.ref (n+1)) (.int 2)=.ok (.ref (n+5)) g:=v5 2 2 rfl r.l rfl
theorem RP.i3(r:RP g n bK bH bO bJ):ixD g (.ref (n+1)) (.int 3)=.ok (.ref (n+6)) g:=v5 3 3 rfl r.l rfl
variable{b:Nat}
theorem a1S{a:Nat}{ys:List D}(h1:g[a]? =some (.lst xs))(h2:g[b]? =some (.lst ys))(hl:↥xs+↥ys<=100000):O5 g (.ref a) (.ref b)=.ok (.ref ↥g) (g++[.lst (xs++ys)]):=by simp only[O5,h1,h2];rw[az (by show _<=16777216;ac_nf)];rfl
theorem c2d{b x:Bool}:(if b=true then R.ok (D.bl x) h else R.ok (D.bl false) h)=.ok (.bl (b&&x)) h:=by cases b<;>rfl
theorem b8t:(true !=false)=true:=rfl
structure RuleForm(t f:Str)(bK bH bO bJ:List Str):Prop where
 ht:g9 t=true
 hf:g9 f=true
 b:↥bK<=3
 c1:1<=↥bH
 c2:↥bH<=4
 a:↥bO<=3
 o1:1<=↥bJ
 o2:↥bJ<=3
 it:(bK++bH++bO).all U5=true
 to:bJ.all g9=true
 len:∀y∈t::f::(bK++bH++bO++bJ),↥y<=100000
variable{y:Str}
theorem a8w(h:U5 y=true):J9 y=false:=by
 cases hp:J9 y with
 |false=>rfl
 |true=>
  unfold J9 at hp;rw[br] at hp;rcases hp with e|e
  · have e:=ax e;subst e;revert h;decide
  · have e:=ax e;subst e;revert h;decide
theorem RuleForm.pl{t:Str}(r:RuleForm t f bK bH bO bJ):∀y∈bK++bH++bO++bJ,J9 y=false:=λy hy=>by
 rcases aN.mp hy with hy|hy
 · exact a8w (bp.mp r.it y hy)
 · exact a8w (by unfold U5;rw[bp.mp r.to y hy];rfl)
theorem RuleForm.sz{t:Str}(r:RuleForm t f bK bH bO bJ):↥(bK++bH++bO++bJ)<=1000:=by have:=r.b;have:=r.c2;have:=r.a;have:=r.o2;simp only[au];ac_nf
variable{sd:Str}
section
variable{ct:CT}{F:Nat->Option Fn}(W:PF F)
include W
theorem a2f{k:Nat}{t:Str}(hw:h[w]? =some (.lst (.str x::.str t::.str f::(j9 bK bH bO bJ).map .str)))(r:RuleForm t f bK bH bO bJ):b5 ct F (k+6) 27 [.ref w] h=.ok (.bl true) h:=by
 rw[i6 W.f27 rfl];simp only[Q6];have e13:P9 (.str x::.str t::.str f::(j9 bK bH bO bJ).map .str) (some 1) (some 3)=[.str t,.str f]:=by have:=W0 1 3 (.str x::.str t::.str f::(j9 bK bH bO bJ).map .str) ∅ ⋯;exact this
 have hw1:=b6 (g:=[Cell.lst [.str t,.str f]]) hw;have hn:b5 ct F (k+5) 9 [.ref ↥h] (h++[.lst [.str t,.str f]])=.ok (.bl true) (h++[.lst [.str t,.str f]]):=by
  have:=R7 (ct:=ct) (n:=k+2) (ws:=[t,f]) W (b7 (h:=h) (c:=.lst [.str t,.str f])) (by show 2<=16777216;decide) (λy hy=>r.len y (by
   rcases aH.mp hy with rfl|hy
   · simp
   · rw[aR] at hy;subst hy;simp))
  simpa [r.ht,r.hf] using this
 have hp:=a0M (ct:=ct) (k:=k+4) W hw1 r.pl r.sz;have R:=RP.mk' (h:=h++[Cell.lst [.str t,.str f]]) (bK:=bK) (bH:=bH) (bO:=bO) (bJ:=bJ);generalize hn1:↥(h++[Cell.lst [.str t,.str f]])=n at hp R;generalize hg:h++[Cell.lst [.str t,.str f]]++a0y n bK bH bO bJ=g at hp R;have R1:=R.app [.lst (bK.map D.str++bH.map D.str)];have R2:=R1.app [.lst (bK.map D.str++bH.map D.str++bO.map D.str)];have lb:=r.b;have lc1:=r.c1;have lc2:=r.c2;have la:=r.a;have lo1:=r.o1;have lo2:=r.o2;have a1:=a1S R.p0 R.p1 (by simp;ac_nf);have a2:=a1S (b7 (h:=g) (c:=.lst (bK.map D.str++bH.map D.str))) R1.p2 (by simp;ac_nf);have hi:b5 ct F (k+5) 11 [.ref ↥(g++[Cell.lst (bK.map D.str++bH.map D.str)])] (g++[.lst (bK.map D.str++bH.map D.str)]++[.lst (bK.map D.str++bH.map D.str++bO.map D.str)])=.ok (.bl true) (g++[.lst (bK.map D.str++bH.map D.str)]++[.lst (bK.map D.str++bH.map D.str++bO.map D.str)]):=by have:=a5S (ct:=ct) (n:=k) (ws:=bK++bH++bO) W (h:=g++[.lst (bK.map D.str++bH.map D.str)]++[.lst (bK.map D.str++bH.map D.str++bO.map D.str)]) (w:=↥(g++[Cell.lst (bK.map D.str++bH.map D.str)])) (by rw[b7];simp) (by show _<=16777216;simp;ac_nf) (λy hy=>r.len y (aF _ (aF _ (mem_append_left _ hy))));rw[r.it] at this;exact this
 have ht:b5 ct F (k+5) 9 [.ref (n+6)] (g++[.lst (bK.map D.str++bH.map D.str)]++[.lst (bK.map D.str++bH.map D.str++bO.map D.str)])=.ok (.bl true) (g++[.lst (bK.map D.str++bH.map D.str)]++[.lst (bK.map D.str++bH.map D.str++bO.map D.str)]):=by have:=R7 (ct:=ct) (n:=k+2) (ws:=bJ) W R2.p3 (by show _<=16777216;ac_nf) (λy hy=>r.len y (by simp[hy]));rw[r.to] at this;exact this
 have d1:decide ((3:Int)<(↥bK:Int))=false:=bA nofun;have d2:decide ((3:Int)<(↥bO:Int))=false:=bA nofun;have d3:decide ((1:Int)<=(↥bH:Int))=true:=bf nofun;have d4:decide ((↥bH:Int)<=4)=true:=bf nofun;have d5:decide ((1:Int)<=(↥bJ:Int))=true:=bf nofun;have d6:decide ((↥bJ:Int)<=3)=true:=bf nofun;have nn:∀m:Nat,decide (D.ref m=D.non)=false:=λm=>bA (λz=>nomatch z);simp![K6 hw,e13,hn,Bool.not_true,hp,nn,R.i0,R.i1,R.i2,R.i3,n9 R.p0,n9 R.p1,n9 R.p2,n9 R.p3,aa,op2,G5,d1,d2,d3,d4,d5,d6,a1,a2,R1.i2,R2.i3,hi,ht];rw[←hg];simp only[aB];exact gc1 rfl
theorem a4S{k:Nat}{H:HD}{t:Str}(A:HallAt h n H)(hr:↥H.rules<=100000)(hw:h[w]? =some (.lst (.str x::.str t::.str f::(j9 bK bH bO bJ).map .str)))(r:RuleForm t f bK bH bO bJ):
 ∃h',b5 ct F (k+7) 26 [.ref n,.ref w] h=.ok (U8 (due (decide (t∈H.rules.map (·.1))) (decide (f∈H.features.map (·.1))&&((bK++bH++bO).all (N1 H)&&bJ.all λx=>decide (x∈H.shapes.map (·.1)))) (decide ((30:Int)<=(↥H.rules:Int))))) h'/\Fr n h h'∧
  HallAt h' n (if(due (decide (t∈H.rules.map (·.1))) (decide (f∈H.features.map (·.1))&&((bK++bH++bO).all (N1 H)&&bJ.all λx=>decide (x∈H.shapes.map (·.1)))) (decide ((30:Int)<=(↥H.rules:Int)))).isNone then{H with rules:=H.rules++[(t,[.str f,.tup (bK.map .str),.tup (bH.map .str),.tup (bO.map .str),.tup (bJ.map .str)])]} else H):=by
 rw[i6 W.f26 rfl];simp only[a0e];rw[gc0];have hp:=a0M (ct:=ct) (k:=k+5) W hw r.pl r.sz;have R:=RP.mk' (h:=h) (bK:=bK) (bH:=bH) (bO:=bO) (bJ:=bJ);have A0:=A.app (a0y ↥h bK bH bO bJ);have fr0:=Fr.app n h (a0y ↥h bK bH bO bJ);generalize ↥h=m at hp R A0 fr0;generalize h++a0y m bK bH bO bJ=g at hp R A0 fr0;have R1:=R.app [.lst (bK.map D.str++bH.map D.str)];have R2:=R1.app [.lst (bK.map D.str++bH.map D.str++bO.map D.str)];have A2:=(A0.app [.lst (bK.map D.str++bH.map D.str)]).app [.lst (bK.map D.str++bH.map D.str++bO.map D.str)];have lb:=r.b;have lc2:=r.c2;have la:=r.a;have lo2:=r.o2;have a1:=a1S R.p0 R.p1 (by simp;ac_nf);have a2:=a1S (b7 (h:=g) (c:=.lst (bK.map D.str++bH.map D.str))) R1.p2 (by simp;ac_nf);have hi:=a5z (ct:=ct) (k:=k+1) (ws:=bK++bH++bO) W A2 (w:=↥(g++[Cell.lst (bK.map D.str++bH.map D.str)])) (by rw[b7];simp) (by show _<=16777216;simp;ac_nf) (λy hy=>r.len y (aF _ (aF _ (mem_append_left _ hy))));have hs:=U6 (ct:=ct) (k:=k+5) W A2 R2.p3 (by show _<=16777216;ac_nf);have hq:=a6H (ct:=ct) (k:=k+5) (t:=t) W A2 hr;have fr2:Fr n h (g++[.lst (bK.map D.str++bH.map D.str)]++[.lst (bK.map D.str++bH.map D.str++bO.map D.str)]):=fr0.trans ((Fr.app n g _).trans (Fr.app n _ _));have lr:biD .len (g++[.lst (bK.map D.str++bH.map D.str)]++[.lst (bK.map D.str++bH.map D.str++bO.map D.str)]) [.ref (n+8)]=.ok (.int ↥H.rules) (g++[.lst (bK.map D.str++bH.map D.str)]++[.lst (bK.map D.str++bH.map D.str++bO.map D.str)]):=by rw[n9 A2.c8];simp[rd]
 generalize hG:g++[Cell.lst (bK.map D.str++bH.map D.str)]++[.lst (bK.map D.str++bH.map D.str++bO.map D.str)]=G at a2 hi hs hq lr A2 R2 fr2;have hmt:mtT .append G (.ref (n+8))=true:=by
  have:rdL G (n+8)=some (rd H.rules):=by unfold rdL;rw[A2.c8]
  simp only[mtT,this,Option.isSome_some]
 have hap:∀d,mtD .append G (.ref (n+8)) [d]=.ok .non (G.set (n+8) (.lst (rd H.rules++[d]))):=λd=>by simp only[mtD,A2.c8];rw[az (by show(rd H.rules).length<16777216;simp[rd];ac_nf)]
 simp![a2f W hw r,Bool.not_true,v5 1 1 rfl hw rfl,v5 2 2 rfl hw rfl,hp,R.i0,R.i1,op2,a1,R1.i2,a2,A2.fld7,Y1 A2.c7,hi,R2.i3,hs,c2d,hq,A2.fld8,lr,G5,C8 W,V9];generalize hd:due (decide (t∈H.rules.map (·.1))) (decide (f∈H.features.map (·.1))&&((bK++bH++bO).all (N1 H)&&bJ.all λx=>decide (x∈H.shapes.map (·.1)))) (decide ((30:Int)<=(↥H.rules:Int)))=du;cases du with
 |some f=>
  simp![Option.isNone_some,U8];exact⟨G,rfl,fr2,A2⟩
 |none=>
  simp![Option.isNone_none,A2.fld8,hmt,R2.i0,R2.i1,R2.i2,R2.i3,N7 R2.p0,N7 R2.p1,N7 R2.p2,N7 R2.p3,hap,U8];refine⟨_,rfl,fr2.trans (Fr.set nofun nofun),?_⟩;have:=A2.s8 (H.rules++[(t,[.str f,.tup (bK.map .str),.tup (bH.map .str),.tup (bO.map .str),.tup (bJ.map .str)])]);rw[show rd (H.rules++[(t,[.str f,.tup (bK.map .str),.tup (bH.map .str),.tup (bO.map .str),.tup (bJ.map .str)])])=rd H.rules++[.tup (.str t::[.str f,.tup (bK.map .str),.tup (bH.map .str),.tup (bO.map .str),.tup (bJ.map .str)])] by simp[rd]] at this;exact this
theorem a5g{k:Nat}{a b:Str}{i j:Int}(hw:h[w]? =some (.lst [.str a,.str b]))(ha:a0K a=some i)(hb:a0K b=some j):b5 ct F (k+1) 16 [.ref w] h=.ok (.tup [.int i,.int j]) h:=by obtain⟨a1,a2⟩:=a2M ha;obtain⟨b1,b2⟩:=a2M hb;rw[i6 W.f16 rfl];simp only[a2i];simp![v5 0 0 rfl hw rfl,v5 1 1 rfl hw rfl,a7K a2 a1,a7K b2 b1];exact u8 rfl
theorem a1u{k:Nat}{a:Str}{c:Int}(hw:h[w]? =some (.lst (.str x::.str a::.str sd::ws.map .str)))(ha:g9 a=true)(eM:↥a<=100000)(hs:inD (.str sd) [.str "above",.str "below"]=true)(hc:c=↥ws)(hn:ws.all a4p=true)(hwl:∀y∈ws,↥y<=100000)(hl:↥ws<=100000):b5 ct F (k+5) 18 [.ref w,.int c] h=.ok (.bl true) h:=by subst hc;rw[i6 W.f18 rfl];simp only[Q5];have e3:∀xs,P9 xs (some 3) none=xs.drop 3:=M1 3;have hg:=a4h (ct:=ct) (n:=k) (ws:=ws) W (b7 (h:=h) (c:=.lst (ws.map .str))) (by show _<=16777216;ac_nf) hwl;rw[hn] at hg;have hd:decide (((↥ws+1+1+1:Nat):Int)=3+(↥ws:Int))=true:=bf nofun;simp![n9 hw,aa,op2,O5,a3w,eqS,hd,Bool.not_true,v5 1 1 rfl hw rfl,v5 2 2 rfl hw rfl,G8 W eM,ha,hs,y7,all_cons,all_nil,Bool.and_self,and_self,b8t,K6 hw,e3,drop_succ_cons,drop_zero,hg];exact gc1 rfl
theorem a4b{k:Nat}{H:HD}{a b c:Str}{i j:Int}(A:HallAt h n H)(hw:h[w]? =some (.lst [.str x,.str a,.str sd,.str b,.str c]))(ha:g9 a=true)(eM:↥a<=100000)(hs:inD (.str sd) [.str "above",.str "below"]=true)(hb:a0K b=some i)(hc:a0K c=some j)(hl:↥H.points<=100000):
 ∃h',b5 ct F (k+6) 20 [.ref n,.ref w] h=.ok (U8 (due (decide ((a,sd)∈H.points.map (·.1))) (decide (a∈H.shapes.map (·.1))) false)) h'/\Fr n h h'∧
  HallAt h' n (if(due (decide ((a,sd)∈H.points.map (·.1))) (decide (a∈H.shapes.map (·.1))) false).isNone then{H with points:=H.points++[((a,sd),.tup [.int i,.int j])]} else H):=by
 obtain⟨_,b2⟩:=a2M hb;obtain⟨_,c2⟩:=a2M hc;have hf:b5 ct F (k+5) 18 [.ref w,.int 2] h=.ok (.bl true) h:=a1u (ws:=[b,c]) W hw ha eM hs rfl (by simp[a6g,hb,hc]) (λy hy=>by
  rcases aH.mp hy with rfl|hy
  · ac_nf
  · rw[aR] at hy;subst hy;ac_nf) ⋯
 rw[i6 W.f20 rfl];simp only[X0];rw[gc0];simp![hf,Bool.not_true,v5 1 1 rfl hw rfl,v5 2 2 rfl hw rfl,op2,A.fld3,b9Z A.c3,A.fld1,Y1 A.c1,C8 W,V9];generalize hd:due (decide ((a,sd)∈H.points.map (·.1))) (decide (a∈H.shapes.map (·.1))) false=du;cases du with
 |some f=>
  simp![Option.isNone_some,U8];exact⟨h,rfl,Fr.refl n h,A⟩
 |none=>
  obtain⟨d1,_,_⟩:=a0p hd;have e35:P9 [.str x,.str a,.str sd,.str b,.str c] (some 3) (some 5)=[.str b,.str c]:=W0 3 5 _ ∅ ⋯;have A1:=A.app [.lst [.str b,.str c]];simp![Option.isNone_none,K6 hw,e35,a5g W (b7 (h:=h)) hb hc,A1.fld3,a9s A1.c3 (of_decide_eq_false d1) (show _<16777216 by ac_nf),U8];exact⟨_,rfl,(Fr.app n h _).trans (Fr.set nofun nofun),A1.s3 _⟩
end
variable{text:Str}
section
variable{ct:CT}{F:Nat->Option Fn}
def Y2(ct:CT)(F:Nat->Option Fn)(d:Nat)(H:HD)(ws:List Str)(du:Option Str)(H':HD):Prop:=∀(h:AH) (n w:Nat),HallAt h n H->h[w]? =some (.lst (ws.map .str))->∃h',b5 ct F d 13 [.ref n,.ref w] h=.ok (U8 du) h'/\Fr n h h'/\HallAt h' n H'
inductive Reads(ct:CT)(F:Nat->Option Fn)(d:Nat):HD->List Str->HD->Prop
 |nil (H:HD):Reads ct F d H [] H
 |take {H H1 H':HD} {row:Str} {i7:List Str} (hl:row.length<=100000) (hw:N5 row≠[]) (k:Y2 ct F d H (N5 row) none H1) (t:Reads ct F d H1 i7 H'):Reads ct F d H (row::i7) H'
variable(W:PF F)
include W
theorem b4H{d:Nat}{R:List Str}{H H':HD}{rows:List Str}(q:Reads ct F (d+1) H rows H'):∀(p:Nat) (h:AH) (e2 e3 e4 e5:Option D),HallAt h n H->h[n+9]? =some (.lst (R.map .str))→
 ∃h',Fr n h h'/\HallAt h' n H'/\∃a2 a3 a4 a5,K8 [(n+9,.lst (R.map .str))] (.tp (.nm 2>=>.nm 3>=>.nil)) (exs ct (b5 ct F (d+1)) rhB) (u5 p (rows.map D.str)) [some (.str text),~~~n,e2,e3,e4,e5] h=.ok (.nx [some (.str text),~~~n,a2,a3,a4,a5]) h':=by
 have step:∀{h:AH} {e2 e3 e4 e5:Option D} {row:Str} {i7:List D} {p:Nat},h[n+9]? =some (.lst (R.map .str))→
  K8 [(n+9,.lst (R.map .str))] (.tp (.nm 2>=>.nm 3>=>.nil)) (exs ct (b5 ct F (d+1)) rhB) (.tup [.int p,.str row]::i7) [some (.str text),~~~n,e2,e3,e4,e5] h=
  (exs ct (b5 ct F (d+1)) rhB [some (.str text),~~~n,some (.int p),some (.str row),e4,e5] h).bind λo h'=>match o with
   |.nx env''=>K8 [(n+9,.lst (R.map .str))] (.tp (.nm 2>=>.nm 3>=>.nil)) (exs ct (b5 ct F (d+1)) rhB) i7 env'' h'
   |.rt d=>.ok (.rt d) h':=fun{h e2 e3 e4 e5 row i7 p} hs=>by
  rw[K8,az (by simp[gOk,hs])];rfl
 induction q with
 |nil H=>
  intro p h e2 e3 e4 e5 A hs;refine⟨h,Fr.refl n h,A,e2,e3,e4,e5,?_⟩;rw[map_nil,u5,K8,az (by simp[gOk,hs])]
 | @take H H1 H' row i7 hl hw k t ih=>
  intro p h e2 e3 e4 e5 A hs;obtain⟨h1,k1,k2,k3⟩:=k (h++[.lst ((N5 row).map .str)]) n ↥h (A.app _) b7;have hs1:h1[n+9]? =some (.lst (R.map .str)):=by have hs0:=b6 (g:=[Cell.lst ((N5 row).map .str)]) hs;rw[k2.get (n+9) (ac.mp hs0).1 nofun];exact hs0
  obtain⟨h',f1,A',e2',e3',e4',eZ,m⟩:=ih (p+1) h1 (some (.int p)) (some (.str row)) (~~~↥h) (some .non) k3 hs1;have hp:decide ((0:Int)<(↥((N5 row).map D.str):Int))=true:=bf (by
   cases hq:N5 row with
   |nil=>exact absurd hq hw
   |cons a b=>simp)
  have e:exs ct (b5 ct F (d+1)) rhB [some (.str text),~~~n,some (.int p),some (.str row),e4,e5] h=.ok (.nx [some (.str text),~~~n,some (.int p),some (.str row),~~~↥h,some .non]) h1:=by simp only[rhB];simp![a5U W hl,n9 b7,op2,G5,hp,k1,U8,decide_true,Bool.not_true]
  refine⟨h',((Fr.app n h _).trans k2).trans f1,A',e2',e3',e4',eZ,?_⟩;rw[map_cons,u5,step hs,e,d9];exact m
theorem b5f(f:Fr ↥h h h'):h'.take ↥h=h:=by
 refine ext_getElem? λi=>?_
 by_cases hi:i<↥h
 · rw[bC hi,f.get i hi (.inl hi)]
 · rw[aY (by simp;ac_nf),aY nofun]
theorem a5d{d:Nat}{H':HD}(cP:ct.init 6=32)(ht:↥text<=10000000)(q:Reads ct F (d+1) {} (Txt.split text "\n") H'):
 ∃h',h'.take ↥h=h/\HallAt h' ↥h H'/\b5 ct F (d+2) 12 [.str text] h=.ok (.ref ↥h) h':=by
 rw[i6 W.f12 rfl];have hf:a0h=⟨1,6,0,(.set 1 (.mk 6 .nil)>=>.for (.tp (.nm 2>=>.nm 3>=>.nil)) (.enum (.mt .split (.v 0) (.o (.s "\n")))) rhB>=>.o (.ret (.v 1)))⟩:=rfl;simp only[hf];rw[gc0];have A0:HallAt (h++[.obj 6 (a2g ↥h),.dict [],.dict [],.dict [],.dict [],.lst [],.dict [],.dict [],.lst []]) ↥h {}:=⟨a6K,B0,B0,B0,B0,B0,B0,B0,B0⟩;have bU:↥(h++[Cell.obj 6 (a2g ↥h),.dict [],.dict [],.dict [],.dict [],.lst [],.dict [],.dict [],.lst []])=↥h+9:=by simp
 have hnew:=b2b (ct:=ct) (n:=d) (h:=h) W;generalize hg:h++[Cell.obj 6 (a2g ↥h),.dict [],.dict [],.dict [],.dict [],.lst [],.dict [],.dict [],.lst []]=g at*
 have A1:=A0.app [.lst ((Txt.split text "\n").map .str)];have hs:(g++[Cell.lst ((Txt.split text "\n").map .str)])[↥h+9]? =some (.lst ((Txt.split text "\n").map .str)):=by rw[←bU];exact b7
 obtain⟨h',f1,A',e2,e3,e4,e5,m⟩:=b4H (d:=d) (R:=Txt.split text "\n") (text:=text) W q 0 (g++[.lst ((Txt.split text "\n").map .str)]) none none none none A1 hs;have fr:Fr ↥h h h':=by refine Fr.trans ?_ f1;rw[←hg];exact(Fr.app _ h _).trans (Fr.app _ _ _)
 refine⟨h',b5f W fr,A',?_⟩;have eQ:mtD .split g (.str text) [.str "\n"]=.ok (.ref ↥g) (g++[.lst ((Txt.split text "\n").map .str)]):=by simp only[mtD];rw[az ⟨by decide,by show _<=16777216;ac_nf⟩];rfl
 have hen:T8 (g++[.lst ((Txt.split text "\n").map .str)]) (.ref ↥g)=.ok (u5 0 ((Txt.split text "\n").map .str),[(↥h+9,.lst ((Txt.split text "\n").map .str))]) (g++[.lst ((Txt.split text "\n").map .str)]):=by simp only[T8,bU,hs]
 simp![cP,hnew,mtT,eQ,hen,m]
end
noncomputable def dg(n:Nat):Str:=Str.ofString (toString (n:Int))
def lt(i:Nat):Nat:=97+i
theorem b3m:∀i:Fin 26,(cd abc)[i.val]? =some (lt i.val)/\Q2 (lt i.val)=true:=by decide+kernel
def nm(stem:Str)(k:Nat):Str:=(⟨#[lt (7*k%26)]⟩++stem)++dg (k*13%61)
variable{stem:Str}
theorem a3C(h:g9 z=true):1<=↥z/\↥z<=12:=by unfold g9 at h;rw[ae,ae] at h;exact⟨ax h.1.1,ax h.1.2⟩
theorem a1Z(h:g9 z=true){c:Nat}(hc:Q2 c=false):c∉cd z:=by unfold g9 at h;rw[ae] at h;intro hm;have:=bp.mp h.2 c hm;rw[hc] at this;cases this
section
variable{ct:CT}{F:Nat->Option Fn}(W:PF F)
include W
section
variable{k:Nat}{i7:List D}
theorem b0r(hw:h[w]? =some (.lst (.str "shape"::i7))):b5 ct F (k+1) 13 [.ref n,.ref w] h=b5 ct F k 17 [.ref n,.ref w] h:=by rw[i6 W.f13 rfl];simp only[E6];rw[gc0];simp![v5 0 0 rfl hw rfl,op2,J4,eqS,decide_true,decide_false];generalize b5 ct F k 17 [.ref n,.ref w] h=r;cases r<;>simp![]
theorem b0s(hw:h[w]? =some (.lst (.str "point"::i7))):b5 ct F (k+1) 13 [.ref n,.ref w] h=b5 ct F k 20 [.ref n,.ref w] h:=by rw[i6 W.f13 rfl];simp only[E6];rw[gc0];simp![v5 0 0 rfl hw rfl,op2,J4,eqS,decide_true,decide_false];generalize b5 ct F k 20 [.ref n,.ref w] h=r;cases r<;>simp![]
theorem a9n(hw:h[w]? =some (.lst (.str "letter"::i7))):b5 ct F (k+1) 13 [.ref n,.ref w] h=b5 ct F k 22 [.ref n,.ref w] h:=by rw[i6 W.f13 rfl];simp only[E6];rw[gc0];simp![v5 0 0 rfl hw rfl,op2,J4,eqS,decide_true,decide_false];generalize b5 ct F k 22 [.ref n,.ref w] h=r;cases r<;>simp![]
theorem b0t(hw:h[w]? =some (.lst (.str "class"::i7))):b5 ct F (k+1) 13 [.ref n,.ref w] h=b5 ct F k 24 [.ref n,.ref w] h:=by rw[i6 W.f13 rfl];simp only[E6];rw[gc0];simp![v5 0 0 rfl hw rfl,op2,J4,eqS,decide_true,decide_false];generalize b5 ct F k 24 [.ref n,.ref w] h=r;cases r<;>simp![]
theorem a7n(hw:h[w]? =some (.lst (.str "feature"::i7))):b5 ct F (k+1) 13 [.ref n,.ref w] h=b5 ct F k 25 [.ref n,.ref w] h:=by rw[i6 W.f13 rfl];simp only[E6];rw[gc0];simp![v5 0 0 rfl hw rfl,op2,J4,eqS,decide_true,decide_false];generalize b5 ct F k 25 [.ref n,.ref w] h=r;cases r<;>simp![]
theorem b3D(hw:h[w]? =some (.lst (.str "rule"::i7))):b5 ct F (k+1) 13 [.ref n,.ref w] h=b5 ct F k 26 [.ref n,.ref w] h:=by rw[i6 W.f13 rfl];simp only[E6];rw[gc0];simp![v5 0 0 rfl hw rfl,op2,J4,eqS,decide_true,decide_false];generalize b5 ct F k 26 [.ref n,.ref w] h=r;cases r<;>simp![]
end
def c0R{α:Type}(o:Option Str)(a b:α):α:=match o with
 |none=>a
 |some _=>b
variable{d:Nat}{H:HD}
theorem b0v{a b:Str}{v:Int}(ha:g9 a=true)(hb:V5 b=some v):Y2 ct F (d+9) H [("shape":Str),a,b] (due (decide (a∈H.shapes.map (·.1))) true (decide ((60:Int)<=(↥H.shapes:Int))))
 (c0R (due (decide (a∈H.shapes.map (·.1))) true (decide ((60:Int)<=(↥H.shapes:Int)))) {H with shapes:=H.shapes++[(a,.int v)]} H):=by
 intro h n w A hw;have:=a4a (ct:=ct) (k:=d+5) W A hw ha (by have:=a3C ha;ac_nf) hb;rw[b0r W hw,this];generalize due (decide (a∈H.shapes.map (·.1))) true (decide ((60:Int)<=(↥H.shapes:Int)))=du;cases du with
 |none=>exact⟨_,rfl,Fr.set nofun nofun,A.s1 _⟩
 |some f=>exact⟨_,rfl,Fr.refl n h,A⟩
theorem a7o{a b:Str}(ha:g9 a=true)(hb:b="on"∨b="off"):Y2 ct F (d+9) H [("feature":Str),a,b] (due (decide (a∈H.features.map (·.1))) true (decide ((10:Int)<=(↥H.features:Int))))
 (c0R (due (decide (a∈H.features.map (·.1))) true (decide ((10:Int)<=(↥H.features:Int)))) {H with features:=H.features++[(a,.bl (decide (b="on")))]} H):=by
 intro h n w A hw;have:=a2C (ct:=ct) (k:=d+5) W A hw ha (by have:=a3C ha;ac_nf) hb;rw[a7n W hw,this];generalize due (decide (a∈H.features.map (·.1))) true (decide ((10:Int)<=(↥H.features:Int)))=du;cases du with
 |none=>exact⟨_,rfl,Fr.set nofun nofun,A.s7 _⟩
 |some f=>exact⟨_,rfl,Fr.refl n h,A⟩
theorem a8x{s:Str}(hs:g9 s=true):O3 s=false:=by
 unfold O3;have:(cd s).head?≠some 64:=λe=>by
  refine a1Z hs (c:=64) ∅ ?_;cases hq:cd s with
  |nil=>rw[hq] at e;cases e
  |cons c r=>rw[hq] at e;injection e with e;subst e;exact ba
 rw[bA this];rfl
end
theorem n8(x y:Str):↥(x++y)=↥x+↥y:=by rw[←u7,E3,au,u7,u7]
theorem b0y{i:Int}(h: -1000000000000<=i/\i<=1000000000000):a2L i=true:=by
 cases i with
 |ofNat n=>
  refine Nat.ble_eq_true_of_le ?_;have:(n:Int)<=1000000000000:=h.2;ac_nf
 |negSucc n=>
  refine Nat.ble_eq_true_of_le ?_;have:=h.1;rw[Int.negSucc_eq] at this;ac_nf
theorem a4o(h:n<=1000000):a3i (n:Int)=true:=Nat.ble_eq_true_of_le nofun
theorem M9{i j:Int}(hj: -1000000000000<=j/\j<=1000000000000):O4 h (.int i) (.int j)=.ok (.int (i*j)) h:=by simp only[O4];rw[az (by rw[b0y hj,Bool.or_true])]
theorem a7A{i j:Int}(hj:0<j):v0 h (.int i) (.int j)=.ok (.int (i%j)) h:=by simp only[v0];rw[az hj]
theorem b8l{i j:Int}(hj:0<j)(h2:j<1073741824):u0 h (.int i) (.int j)=.ok (.int (i/j)) h:=by simp only[u0];rw[az ⟨hj,h2⟩]
theorem o8{i j:Int}:O5 h (.int i) (.int j)=.ok (.int (i+j)) h:=rfl
theorem t9(hl:↥x+↥y<=100000):O5 h (.str x) (.str y)=.ok (.str (x++y)) h:=by simp only[O5];rw[az (by show _<=16777216;ac_nf)]
theorem B8(b:Nat)(hb:0<b){a:Nat}:v0 h ⇑a ⇑b=.ok ⇑(a%b) h:=by rw[a7A nofun];congr 2
theorem J1(b:Nat)(hb:0<b)(h2:b<1073741824){a:Nat}:u0 h ⇑a ⇑b=.ok ⇑(a/b) h:=by rw[b8l nofun nofun];congr 2
noncomputable def mx(c j:Int):Int:=(c%2305843009213693951+1)*(j*j+48271)*40692%2147483399
theorem b7u(c j:Int):0<=mx c j:=Int.emod_nonneg _ ∅
variable{sep:Str}{ts:List Str}
theorem a5t(h:(ts.map (·.length)).sum+↥ts*↥sep<=1000000):JoinOk sep ts=true:=by
 unfold JoinOk;rw[StrLaws.joinTotal];simp only[Builtin.Str.tooLong,Bool.not_eq_true',decide_eq_false_iff_not];have:sizeLine=16777216:=by decide
 ac_nf
theorem a7d:∀ps:List Str,cd (Str.join "" ps)=(ps.map cd).flatten
 |[]=>rfl
 |[x]=>by show cd x=_;simp
 |x::y::r=>by show cd (x++Str.ofString ""++Str.join "" (y::r))=_;rw[E3,E3,a7d (y::r),show cd (Str.ofString "")=[] from rfl,bc];rfl
theorem b8q(n:Nat)(x:Str):cd (G0 n x)=(List.replicate n (cd x)).flatten:=by show(G0 n x).cps.toList=_;unfold G0;rw[foldl_app'];simp[cd]
where
  foldl_app' {x:Array Nat}:∀{n:Nat} {a:Array Nat},((List.replicate n x).foldl (· ++ ·) a).toList=a.toList++(List.replicate n x.toList).flatten
    |0,a=>by simp
    |n+1,a=>by rw[replicate_succ,foldl_cons,foldl_app',replicate_succ,List.flatten_cons];simp
theorem a9b(ts:List Str):cd (Txt.join "" ts)=(ts.map cd).flatten:=by show cd (Builtin.Str.glued "" _)=_;rw[StrLaws.glued_eq_join];exact a7d ts
theorem b9j{p:Nat}(h:p<=↥z):cd (Txt.slice z none (some (p:Int)))=(cd z).take p:=by have e:Txt.slice z none (some (p:Int))=⟨((z.cps.toList.drop (0:Int).toNat).take ((p:Int)-0).toNat).toArray⟩:=beq_iff_eq.mp (PyProof.Rows.slice_closes_to ⟨by ac_nf,by have:=u7 z;show(p:Int)<=(↥(cd z):Int);ac_nf⟩);rw[e];simp[cd]
theorem b3N{p:Nat}(h:p<=↥z):cd (Txt.slice z (some (p:Int)) none)=(cd z).drop p:=by rw[PyProof.Rows.slice_from_eq (b:=↥z) nofun nofun rfl];show((cd z).drop ((p:Int).toNat)).take (((↥z:Int)-p).toNat)=_;rw[Int.toNat_natCast];exact bj (by rw[bB,u7];ac_nf)
variable{c:CF}{env:u9}{ns:List Int}
section
variable{ct:CT}{F:Nat->Option Fn}
theorem seq{s:S}{T:Ss}{bI:u9}(e:ex ct c s env h=.ok (.nx bI) h'):exs ct c (.cons s T) env h=exs ct c T bI h':=by rw[K4,e,d9]
theorem a0F{k f:Nat}(hF:F f=some I0)(hr:h[n]? =some (.rol (ns.map .int))):∃a,b5 ct F (k+1) f [.ref n,.int (j:Int)] h=.ok (.int a) h:=by
 rw[i6 hF rfl];simp only[I0];have rl:rdL h n=some (ns.map .int):=by unfold rdL;rw[hr]
 have le:biD .len h [.ref n]=.ok ⇑↥ns h:=by simp only[biD,bi1,biL,hr,rl,aa]
 by_cases lt:(j:Int)<(↥ns:Int)
 · have lt':j<↥ns:=by ac_nf
   have ix:ixD h (.ref n) ⇑j=.ok (.int ns[j]) h:=by
    have:atI (ns.map D.int) (j:Int)=some (.int ns[j]):=by
     show(ixN ↥(ns.map D.int) (j:Int)).bind (λj=>(ns.map D.int)[j]?)=_;have e:ixN ↥(ns.map D.int) (j:Int)=some j:=by unfold ixN;rw[aa,az nofun,az nofun];simp
     rw[e];show(ns.map D.int)[j]? =_;rw[ak,ai lt'];rfl
    simp only[ixD,hr,this]
   refine⟨ns[j],?_⟩;simp![le,op2,G5,lt,decide_true,ix];exact u8 rfl
 · refine⟨0,?_⟩;simp![le,op2,G5,lt,decide_false];exact u8 rfl
theorem B9{k f:Nat}{c j:Int}(hF:F f=some p8)(hj:0<=j/\j<=1000):∃M:Nat,b5 ct F (k+1) f [.int c,.int j] h=.ok ⇑M h:=by
 obtain⟨M,hM⟩:=Int.eq_ofNat_of_zero_le (b7u c j);refine⟨M,?_⟩;rw[←hM,i6 hF rfl];simp only[p8];have hjj:0<=j*j/\j*j<=1000000:=⟨Int.mul_nonneg hj.1 hj.1,by have:=Int.mul_le_mul hj.2 hj.2 hj.1 ∅;ac_nf⟩
 simp![op2,a7A (h:=h) (i:=c) (j:=2305843009213693951) ∅,O5,M9 (h:=h) (i:=j) (j:=j) nofun,M9 (h:=h) (i:=c%2305843009213693951+1) (j:=j*j+48271) nofun,M9 (h:=h) (i:=(c%2305843009213693951+1)*(j*j+48271)) (j:=40692) ∅,a7A (h:=h) (i:=(c%2305843009213693951+1)*(j*j+48271)*40692) (j:=2147483399) ∅];exact u8 rfl
end
variable{α:Type}
theorem T4{a:Option α}:(some a).join=a:=rfl
theorem a9d:abc.length=26:=by decide+kernel
theorem b8A:abc.length<=SL:=by rw[a9d];show 26<=16777216;ac_nf
theorem b7x{a:Nat}(h:lt a=lt b):a=b:=by unfold lt at h;ac_nf
theorem a8A{i:Nat}(h:i<26):Q2 (lt i)=true:=(b3m ⟨i,h⟩).2
def nmA(f m i:Nat):Str:=G0 (m-i) ⟨#[lt f]⟩
theorem a8a(f m i:Nat):cd (nmA f m i)=List.replicate (m-i) (lt f):=by unfold nmA;rw[b8q];show(List.replicate _ [lt f]).flatten=_;simp
noncomputable def nmB(stem:Str)(p f i:Nat):Str:=(Txt.slice stem none (some (p:Int))++⟨#[lt ((f+5*i)%26)]⟩)++Txt.slice stem (some (p:Int)) none
theorem a5L{p f i:Nat}(h:p<=↥stem):cd (nmB stem p f i)=(cd stem).take p++lt ((f+5*i)%26)::(cd stem).drop p:=by unfold nmB;rw[E3,E3,b9j h,b3N h];show(cd stem).take p++[lt ((f+5*i)%26)]++(cd stem).drop p=_;simp
theorem a0B{α β:Type}(f:α->β):∀{l:List α},l.Nodup->(∀a∈l,∀b∈l,f a=f b->a=b)->(l.map f).Nodup
 |[],_,_=>nodup_nil
 |x::r,h,hi=>by have h:=aX.mp h;rw[map_cons];refine aX.mpr ⟨λm=>?_,a0B f h.2 λa ha b hb=>hi a (.tail _ ha) b (.tail _ hb)⟩;obtain⟨y,hy,e⟩:=ao.mp m;rw[hi y (.tail _ hy) x (.head _) e] at hy;exact h.1 hy
structure Nms(ns:List Str)(m:Nat):Prop where
 len:↥ns=m
 nd:ns.Nodup
 ok:∀n∈ns,g9 n=true
theorem c1Z{f m:Nat}(hf:f<26)(hm:m<13):Nms ((List.range m).map (nmA f m)) m:=by
 refine⟨by simp,a0B _ List.nodup_range λa ha b hb e=>?_,λn hn=>?_⟩
 · have ha:=aQ.mp ha;have hb:=aQ.mp hb;have e:=congrArg (λz=>↥(cd z)) e;simp only[a8a,bn] at e;ac_nf
 · obtain⟨i,hi,rfl⟩:=ao.mp hn;have hi:=aQ.mp hi;have l:↥(nmA f m i)=m-i:=by rw[←u7,a8a,bn]
   unfold g9;rw[l,a8a];rw[bf (show 1<=m-i by ac_nf),bf (show m-i<=12 by ac_nf)];simp only[Bool.true_and];refine bp.mpr λc hc=>?_;rw[(List.mem_replicate.mp hc).2];exact a8A hf
theorem c1Y{p f m:Nat}(hs:↥stem<=11)(dN:(cd stem).all Q2=true)(hp:p<=↥stem)(hm:m<=26):Nms ((List.range m).map (nmB stem p f)) m:=by
 refine⟨by simp,a0B _ List.nodup_range λa ha b hb e=>?_,λn hn=>?_⟩
 · have ha:=aQ.mp ha;have hb:=aQ.mp hb;have e:=congrArg cd e;rw[a5L hp,a5L hp] at e;have e:=List.append_cancel_left e;injection e with e _;have e:=b7x e;ac_nf
 · obtain⟨i,hi,rfl⟩:=ao.mp hn;have lt':↥((cd stem).take p++lt ((f+5*i)%26)::(cd stem).drop p)=↥stem+1:=by rw[au,length_cons,aO,bB,u7];ac_nf
   have l:↥(nmB stem p f i)=↥stem+1:=by rw[←u7,a5L hp,lt']
   unfold g9;rw[l,a5L hp,bf (show 1<=↥stem+1 by ac_nf),bf (show ↥stem+1<=12 by ac_nf)];simp only[Bool.true_and];refine bp.mpr λc hc=>?_;rcases aN.mp hc with q|q
   · exact bp.mp dN c (List.mem_of_mem_take q)
   · rcases aH.mp q with q|q
     · rw[q];exact a8A (Nat.mod_lt _ ∅)
     · exact bp.mp dN c (List.mem_of_mem_drop q)
variable{e:E}{a:E}
section
variable{ct:CT}{F:Nat->Option Fn}
theorem W3{m:Nat}(hm:m<=1000000):b0M h (.int 0) ⇑m=.ok ((List.range m).map λi=>.int ((0:Int)+(i:Nat)),[]) h:=by simp only[b0M];rw[az ⟨by decide,a4o hm⟩];show R.ok (b0N 0 (((m:Int)-0).toNat),[]) h=_;rw[Int.sub_zero,Int.toNat_natCast];rfl
theorem W1{fr:List Nat}{m:Nat}(f:Nat->D)(ha:ev ct c a env h=.ok ⇑m h)(hm:m<=1000000)
 (hx:∀i,i<m->ev ct c e (i⁻¹::fr.map λj=>(env[j]?).join) h=.ok (f i) h):ev ct c (.comp (.nm 0) (.rng1 a) 1 fr .yes e) env h=.ok (.ref ↥h) (h++[.lst ((List.range m).map f)]):=by
 rw[o6 (l:=(List.range m).map λi=>.int ((0:Int)+(i:Nat))) (g:=[]) (h1:=h) ?_ rfl (λd=>match d with|.int i=>f i.toNat|_=>.non) (λd=>some d::fr.map λj=>(env[j]?).join) ?_ ?_]
 · congr 3;rw[aK];refine congrArg (λg=>Cell.lst (List.map g (List.range m))) (funext λi=>?_);simp
 · rw[a6P,ha,d9,W3 hm]
 · intro x ee;obtain⟨i,hi,rfl⟩:=ao.mp ee;refine⟨rfl,?_⟩;have z:(0:Int)+(i:Nat)=((i:Nat):Int):=by ac_nf
   rw[z,hx i (aQ.mp hi)];simp
 · rw[aa,aL];show _<=16777216;ac_nf
theorem b1M{i:Nat}(hi:i<26):ixD h (.str abc) ⇑i=.ok (.str ⟨#[lt i]⟩) h:=ix_str b8A (b3m ⟨i,hi⟩).1
theorem b0B:a1t.length<=SL:=by rw[show a1t.length=36 by decide+kernel];show 36<=16777216;ac_nf
def a1N(c i:Nat):Nat:=(cd a1t).getD ((c/16224+7*i)%36) 0
theorem a7a(c i:Nat):(cd a1t)[(c/16224+7*i)%36]? =some (a1N c i)/\Q2 (a1N c i)=true:=by
 have lt:(c/16224+7*i)%36<↥(cd a1t):=by rw[u7,show a1t.length=36 by decide+kernel];exact Nat.mod_lt _ ∅
 unfold a1N;rw[bx,ai lt];exact⟨rfl,bf (bu lt)⟩
theorem Z2{k f c m:Nat}(hF:F f=some o9)(hm:m<=26):∃ns,Nms ns m/\b5 ct F (k+1) f [.int (c:Int),.int (m:Int)] h=.ok (.ref ↥h) (h++[.lst (ns.map .str)]):=by
 have d4:u0 h ⇑c (.int 4)=.ok ⇑(c/4) h:=J1 4 ∅ ∅;have m26:∀(a:Nat) (h:AH),v0 h ⇑a (.int 26)=.ok ⇑(a%26) h:=λa h=>B8 26 ∅;have m4:v0 h ⇑c (.int 4)=.ok ⇑(c%4) h:=B8 4 ∅;have d104:u0 h ⇑c (.int 104)=.ok ⇑(c/104) h:=J1 104 ∅ ∅;have m12:v0 h ⇑(c/104) (.int 12)=.ok ⇑(c/104%12) h:=B8 12 ∅;have d1248:u0 h ⇑c (.int 1248)=.ok ⇑(c/1248) h:=J1 1248 ∅ ∅;have f26:c/4%26<26:=Nat.mod_lt _ ∅;have s12:c/104%12<12:=Nat.mod_lt _ ∅;rw[i6 hF rfl];simp only[o9];rw[seq (by simp![];rfl)];rw[seq (by simp![op2,d4,m26];rfl)];generalize hf:c/4%26=f1 at f26
 by_cases hc:((c%4:Nat):Int)=0/\(m:Int)<13
 · obtain⟨h1,h2⟩:=hc;have q0:J4 h ⇑(c%4) (.int 0)=.ok (.bl true) h:=by rw[h1];rfl
   refine⟨_,c1Z (m:=m) f26 nofun,?_⟩;have cm:ev ct (b5 ct F k) cA [c⁻¹,m⁻¹,some (.str abc),f1⁻¹,none,none,none] h=.ok (.ref ↥h) (h++[.lst ((List.range m).map λi=>.str (nmA f1 m i))]):=by
    unfold cA;refine W1 (λi=>.str (nmA f1 m i)) (by simp![]) nofun λi hi=>?_;have sb:a4u h ⇑m ⇑i=.ok ⇑(m-i) h:=by show R.ok (D.int ((m:Int)-(i:Int))) h=_;congr 2;ac_nf
    have ml:O4 h (.str ⟨#[lt f1]⟩) ⇑(m-i)=.ok (.str (nmA f1 m i)) h:=by
     simp only[O4];have l1:↥(⟨#[lt f1]⟩:Str)*(((m-i:Nat):Int)).toNat<=SL:=by rw[Int.toNat_natCast];show 1*(m-i)<=16777216;ac_nf
     rw[az ⟨a4o nofun,l1⟩];exact congrArg (λz=>R.ok (D.str (G0 z ⟨#[lt f1]⟩)) h) (Int.toNat_natCast _)
    simp![op2,b1M f26,sb,ml,T4]
   simp![op2,m4,q0,G5,h2,decide_true,cm];have e:((List.range m).map (nmA f1 m)).map D.str=(List.range m).map λi=>D.str (nmA f1 m i):=by rw[aK];rfl
   rw[e];exact gc2 ⋯ (aj _) (by rw[←e];exact C2 _)
 · have tt:∀T,exs ct (b5 ct F k) (.iff (.an (.cmp .eq (.bin .mod (.v 0) (.i 4)) (.i 0)) (.cmp .lt (.v 1) (.i 13))) (.o (.ret cA)) .nil>=>T) [c⁻¹,m⁻¹,some (.str abc),f1⁻¹,none,none,none] h=exs ct (b5 ct F k) T [c⁻¹,m⁻¹,some (.str abc),f1⁻¹,none,none,none] h:=λT=>by
    refine seq ?_
    by_cases h1:((c%4:Nat):Int)=0
    · have h2:¬(m:Int)<13:=λz=>hc ⟨h1,z⟩;have q0:J4 h ⇑(c%4) (.int 0)=.ok (.bl true) h:=by rw[h1];rfl
      simp![op2,m4,q0,G5,h2,decide_false]
    · have q0:J4 h ⇑(c%4) (.int 0)=.ok (.bl false) h:=by simp only[J4,eqS,h1,decide_false]
      simp![op2,m4,q0]
   rw[tt];rw[seq (by simp![op2,d104,m12];rfl)];generalize c/104%12=sz at s12;have a1:((sz:Nat):Int)+1=((sz+1:Nat):Int):=by ac_nf
   rw[seq (by simp![op2,d1248,o8,a1,B8 (sz+1) nofun];rfl)];have pl:c/1248%(sz+1)<=sz:=Nat.le_of_lt_succ (Nat.mod_lt _ nofun);generalize c/1248%(sz+1)=p at pl;have cs:ev ct (b5 ct F k) cS [c⁻¹,m⁻¹,some (.str abc),f1⁻¹,sz⁻¹,p⁻¹,none] h=.ok (.ref ↥h) (h++[.lst ((List.range sz).map λi=>.str ⟨#[a1N c i]⟩)]):=by
    unfold cS;refine W1 (λi=>.str ⟨#[a1N c i]⟩) (by simp![]) nofun λi hi=>?_;have ad:O5 h (.str abc) (.str "0123456789")=.ok (.str a1t) h:=by rw[t9 (by rw[a9d,show(Str.ofString "0123456789").length=10 by decide+kernel];decide)];rfl
    have d16:u0 h ⇑c (.int 16224)=.ok ⇑(c/16224) h:=J1 16224 ∅ ∅;have m7:O4 h (.int 7) ⇑i=.ok ⇑(7*i) h:=by rw[M9 nofun];congr 2
    have a2:((c/16224:Nat):Int)+((7*i:Nat):Int)=((c/16224+7*i:Nat):Int):=by ac_nf
    have m36:v0 h ⇑(c/16224+7*i) (.int 36)=.ok ⇑((c/16224+7*i)%36) h:=B8 36 ∅;simp![op2,ad,d16,m7,o8,a2,m36,ix_str b0B (a7a c i).1,T4]
   have es:((List.range sz).map λi=>D.str ⟨#[a1N c i]⟩)=((List.range sz).map λi=>(⟨#[a1N c i]⟩:Str)).map D.str:=by rw[aK];rfl
   rw[es] at cs;generalize hts:(List.range sz).map (λi=>(⟨#[a1N c i]⟩:Str))=ts at cs;have tl:↥ts=sz:=by rw[←hts];simp
   have t1:∀t∈ts,↥t=1/\(cd t).all Q2=true:=λt ht=>by rw[←hts] at ht;obtain⟨i,_,rfl⟩:=ao.mp ht;exact⟨rfl,by show([a1N c i]:List Nat).all Q2=true;rw[all_cons,(a7a c i).2];rfl⟩
   have sm:∀l:List Str,(∀t∈l,↥t=1)->(l.map (·.length)).sum=↥l:=λl=>by
    induction l with
    |nil=>intro _;rfl
    |cons x r ih=>intro hh;rw[map_cons,List.sum_cons,ih (λt ht=>hh t (.tail _ ht)),hh x (.head _),length_cons];exact Nat.add_comm 1 _
   have jo:JoinOk "" ts=true:=a5t (by rw[sm ts λt ht=>(t1 t ht).1,show(Str.ofString "").length=0 from rfl];ac_nf);have jn:mtD .join (h++[.lst (ts.map .str)]) (.str "") [.ref ↥h]=.ok (.str (Txt.join "" ts)) (h++[.lst (ts.map .str)]):=by simp only[mtD,a1x,a1U];rw[az jo]
   have sl:↥(Txt.join "" ts)=sz:=by rw[←u7,a9b,List.length_flatten,aK,←tl];exact(congrArg List.sum (aZ λt _=>u7 t)).trans (sm ts λt ht=>(t1 t ht).1)
   have ss:(cd (Txt.join "" ts)).all Q2=true:=by rw[a9b];refine bp.mpr λx hx=>?_;obtain⟨q,hq,hm⟩:=List.mem_flatten.mp hx;obtain⟨t,ht,rfl⟩:=ao.mp hq;exact bp.mp (t1 t ht).2 x hm
   generalize Txt.join "" ts=stem at jn sl ss;rw[seq (by simp![mtT,cs,jn];rfl)];refine⟨_,c1Y (stem:=stem) (p:=p) (f:=f1) (m:=m) nofun ss nofun hm,?_⟩;have hg:∃t,h++[Cell.lst (ts.map .str)]=h++t:=⟨_,rfl⟩;have tk:↥(h++[Cell.lst (ts.map D.str)])=↥h+1:=by simp
   have wS:↥stem<=SL:=by show _<=16777216;ac_nf
   have cm:∀g,ev ct (b5 ct F k) cB [c⁻¹,m⁻¹,some (.str abc),f1⁻¹,sz⁻¹,p⁻¹,some (.str stem)] g=.ok (.ref ↥g) (g++[.lst ((List.range m).map λi=>.str (nmB stem p f1 i))]):=λg=>by
    unfold cB;refine W1 (λi=>.str (nmB stem p f1 i)) (by simp![]) nofun λi hi=>?_;have m5:O4 g (.int 5) ⇑i=.ok ⇑(5*i) g:=by rw[M9 nofun];congr 2
    have a2:((f1:Nat):Int)+((5*i:Nat):Int)=((f1+5*i:Nat):Int):=by ac_nf
    have l1:=Txt.slice_le stem none (some (p:Int));have l2:=Txt.slice_le stem (some (p:Int)) none;have x1:↥(⟨#[lt ((f1+5*i)%26)]⟩:Str)=1:=rfl;simp![T4,slD,az wS,op2,m5,o8,a2,m26,b1M (h:=g) (i:=(f1+5*i)%26) (Nat.mod_lt _ ∅),t9 (h:=g) (x:=Txt.slice stem none (some (p:Int))) (y:=⟨#[lt ((f1+5*i)%26)]⟩) nofun,t9 (h:=g) (x:=Txt.slice stem none (some (p:Int))++⟨#[lt ((f1+5*i)%26)]⟩) (y:=Txt.slice stem (some (p:Int)) none) (by rw[n8];ac_nf)];rfl
   simp![cm];have e:((List.range m).map (nmB stem p f1)).map D.str=(List.range m).map λi=>D.str (nmB stem p f1 i):=by rw[aK];rfl
   rw[e,aB];exact gc2 ⋯ ⋯ (by rw[←e];exact C2 _)
end
structure Pf(h0 h:AH):Prop where
 len:↥h0<=↥h
 get:∀i,i<↥h0->h[i]? =h0[i]?
theorem Pf.refl(h:AH):Pf h h:=⟨aj _,λ_ _=>rfl⟩
variable{h0:AH}
theorem Pf.app(p:Pf h0 h)(t:AH):Pf h0 (h++t):=⟨by rw[au];have:=p.len;ac_nf,λi hi=>by rw[aw (aE hi p.len)];exact p.get i hi⟩
theorem Pf.set(p:Pf h0 h){c:Cell}(hn:↥h0<=n):Pf h0 (h.set n c):=⟨by rw[length_set];exact p.len,λi hi=>by rw[List.getElem?_set_ne nofun];exact p.get i hi⟩
theorem Pf.trans{a b c:AH}(p:Pf a b)(q:Pf b c):Pf a c:=⟨aU p.len q.len,λi hi=>(q.get i (aE hi p.len)).trans (p.get i hi)⟩
theorem Pf.take{h0 h:AH}(p:Pf h0 h):h.take ↥h0=h0:=by
 refine ext_getElem? λi=>?_
 by_cases hi:i<↥h0
 · rw[bC hi,p.get i hi]
 · rw[aY (by simp;ac_nf),aY nofun]
theorem Pf.at(p:Pf h0 h){i:Nat}{c:Cell}(e:h0[i]? =some c):h[i]? =some c:=by rw[p.get i (ac.mp e).1];exact e
theorem a2G{k:Nat}{c:Cell}(p:Pf h0 h)(hk:h[k]? =some c)(hl:↥h0<=k)(hc:c.flat=true):gcR 2 h0 (.ok (.ref k) h)=.ok (.ref ↥h0) (h0++[c]):=by unfold gcR;simp only[hk];simp[hl,hc,p.take]
theorem b2m(p:Pf h0 h)(hd:d.flat=true):gcR 1 h0 (.ok d h)=.ok d h0:=by unfold gcR;simp only;rw[aA ∅];simp[hd,p.take]
variable{M:Nat}
section
variable{ct:CT}{F:Nat->Option Fn}
theorem A9{g:List (Nat×Cell)}{p:Pat}{body:u9->AH->R Out}(P:Nat->u9->AH->Prop)(gk:∀j env h,P j env h->gOk g h=true):∀(l:List D) (i:Nat) (env:u9) (h:AH),
 (∀j x env h,l[j]? =some x->P (i+j) env h->∃bY bI h',F7 p x env=some bY/\body bY h=.ok (.nx bI) h'/\P (i+j+1) bI h')->P i env h->∃bI h',K8 g p body l env h=.ok (.nx bI) h'/\P (i+↥l) bI h'
 |[],i,env,h,_,q=>⟨env,h,by rw[K8,az (gk _ _ _ q)],q⟩
 | x::r,i,env,h,st,q=>by
  obtain⟨bY,bI,h',b1,b2,q'⟩:=st 0 x env h rfl q;obtain⟨env2,h2,e2,q2⟩:=A9 P gk r (i+1) bI h' (λj y env h hj hq=>by have:=st (j+1) y env h (by simpa using hj) (by rw[show i+(j+1)=i+1+j by ac_nf];exact hq);rw[show i+(j+1)+1=i+1+j+1 by ac_nf] at this;exact this) q'
  refine⟨env2,h2,?_,by rw[length_cons,show i+(↥r+1)=i+1+r.length by ac_nf];exact q2⟩;rw[K8,az (gk _ _ _ q),b1];simp only;rw[b2];exact e2
theorem K0(e:h[n]? =some (.lst xs))(hl:↥xs<1000000):mtD .append h (.ref n) [d]=.ok .non (h.set n (.lst (xs++[d]))):=by simp only[mtD,e];rw[az (show ↥xs<16777216 by ac_nf)]
theorem D3(e:h[n]? =some (.lst xs)):mtT .append h (.ref n)=true:=by simp only[mtT,rdL,e,Option.isSome_some]
theorem a0U{m:Nat}{x:D}(h:((List.range m).map λi=>D.int ((0:Int)+(i:Nat)))[j]? =some x):j<m/\x=.int (j:Int):=by
 have hj:j<m:=by
  have:=(ac.mp h).1
  simpa using this
 refine⟨hj,?_⟩;rw[ak,aM hj] at h;have h:=ay h;rw[←h];show D.int (0+(j:Int))=_;rw[Int.zero_add]
noncomputable def shD(sh:List (Str×Nat)):List D:=sh.map λp=>.tup [.str p.1,.int (p.2:Int)]
structure Shs(sh:List (Str×Nat)):Prop where
 lo:4<=↥sh
 hi:↥sh<=16
 nd:(sh.map (·.1)).Nodup
 ok:∀p∈sh,g9 p.1=true/\p.2<99999
theorem D7:∀{l:List D},(∀d∈l,d.flat=true)->D.flats l=true
 |[],_=>rfl
 |d::r,h=>by rw[D.flats,h d (.head _),D7 λx hx=>h x (.tail _ hx)];rfl
theorem b2q(sh:List (Str×Nat)):D.flats (shD sh)=true:=D7 λd hd=>by obtain⟨p,_,rfl⟩:=ao.mp hd;rfl
theorem a2J:∀(ns:List Str) (ws:List Nat),Q8 (ns.map .str) (ws.map λw=>.int ((w:Nat):Int))=shD (ns.zip ws)
 |[],_=>rfl
 |_::_,[]=>rfl
 |n::ns,w::ws=>by show D.tup [.str n,.int ((w:Nat):Int)]::Q8 _ _=_;rw[a2J ns ws];rfl
theorem b5g{l:List Nat}{i:Nat}(hl:↥l=4):∃w,(l.map λw=>D.int ((w:Nat):Int))[i%4]? =some ⇑(w)/\w∈l:=by
 have lt:i%4<↥l:=by rw[hl];exact Nat.mod_lt _ ∅
 exact⟨l[i%4],by rw[ak,ai lt];rfl,bu lt⟩
theorem b0l(he:env[5]? =some (M⁻¹)):∃w t,w<99999/\ev ct c wE env h=.ok ⇑(w) (h++[t]):=by
 have d4:∀h,u0 h ⇑M (.int 4)=.ok ⇑(M/4) h:=λh=>J1 4 ∅ ∅;have m4:∀h,v0 h ⇑M (.int 4)=.ok ⇑(M%4) h:=λh=>B8 4 ∅;have m20:∀(a:Nat) h,v0 h ⇑a (.int 20)=.ok ⇑(a%20) h:=λa h=>B8 20 ∅;have m1000:∀(a:Nat) h,v0 h ⇑a (.int 1000)=.ok ⇑(a%1000) h:=λa h=>B8 1000 ∅;have m9:∀(a:Nat) h,v0 h ⇑a (.int 99999)=.ok ⇑(a%99999) h:=λa h=>B8 99999 ∅;obtain⟨w,h1,h2⟩:=b5g (l:=[0,M/4%20,M/4%1000,M/4%99999]) (i:=M) rfl;refine⟨w,.lst [.int ((0:Nat):Int),.int ((M/4%20:Nat):Int),.int ((M/4%1000:Nat):Int),.int ((M/4%99999:Nat):Int)],?_,?_⟩
 · simp only[aH,not_mem_nil,or_false] at h2;rcases h2 with rfl|rfl|rfl|rfl
   · decide
   · exact Nat.lt_trans (Nat.mod_lt _ (show 0<20 by decide)) ∅
   · exact Nat.lt_trans (Nat.mod_lt _ (show 0<1000 by decide)) ∅
   · exact Nat.mod_lt _ ∅
 · unfold wE;have hx:ixD (h++[.lst [.int 0,.int ((M/4%20:Nat):Int),.int ((M/4%1000:Nat):Int),.int ((M/4%99999:Nat):Int)]]) (.ref ↥h) ⇑(M%4)=.ok ⇑(w) (h++[.lst [.int 0,.int ((M/4%20:Nat):Int),.int ((M/4%1000:Nat):Int),.int ((M/4%99999:Nat):Int)]]):=r8 b7 h1;simp![he,op2,d4,m4,m20,m1000,m9,v8,hx];rfl
variable(bQ:F 202=some p8)(cp:F 203=some o9)
include bQ cp
theorem a9q{k:Nat}{c:Int}(hF:F 204=some D8):∃sh,Shs sh/\b5 ct F (k+2) 204 [.int c] h=.ok (.ref ↥h) (h++[.lst (shD sh)]):=by
 obtain⟨M,hM⟩:=B9 (ct:=ct) (k:=k) (c:=c) (j:=1) (h:=h) bQ ∅;have d13:u0 h ⇑M (.int 13)=.ok ⇑(M/13) h:=J1 13 ∅ ∅;have m13:v0 h ⇑M (.int 13)=.ok ⇑(M%13) h:=B8 13 ∅;have a4:(4:Int)+((M%13:Nat):Int)=((4+M%13:Nat):Int):=by ac_nf
 have m16:M%13<13:=Nat.mod_lt _ ∅;obtain⟨ns,nk,hN⟩:=Z2 (ct:=ct) (k:=k) (c:=M/13) (m:=4+M%13) (h:=h) cp nofun;generalize hm:4+M%13=m at nk hN a4;rw[i6 hF rfl];simp only[D8];rw[seq (by simp![hM];rfl)];rw[seq (by simp![op2,d13,m13,o8,a4,hN];rfl)];have l1:↥(h++[Cell.lst (ns.map D.str)])=↥h+1:=by simp
 rw[seq (by simp![v8,l1];rfl)];have gN:(h++[Cell.lst (ns.map D.str)]++[Cell.lst []])[↥h]? =some (.lst (ns.map .str)):=b6 b7;have gW:(h++[Cell.lst (ns.map D.str)]++[Cell.lst []])[↥h+1]? =some (.lst []):=by rw[←l1];exact b7
 have pf:Pf h (h++[Cell.lst (ns.map D.str)]++[Cell.lst []]):=((Pf.refl h).app _).app _;generalize h++[Cell.lst (ns.map D.str)]++[Cell.lst []]=g at gN gW pf;have len:biD .len g [.ref ↥h]=.ok ⇑m g:=by rw[n9 gN,aa,nk.len]
 obtain⟨bI,g',e1,ws,e4,e5,rfl,q2,q3,q4,q5,q6⟩:=A9 (g:=[]) (p:=.nm 4) (body:=exs ct (b5 ct F (k+1)) wB) (λj env hh=>∃ws:List Nat,∃e4 e5,env=[some (.int c),M⁻¹,~~~↥h,some (.ref (↥h+1)),e4,e5]/\Pf h hh/\hh[↥h]? =some (.lst (ns.map .str))/\hh[↥h+1]? =some (.lst (ws.map λw=>.int ((w:Nat):Int)))/\↥ws=j/\∀w∈ws,w<99999) (λ_ _ _ _=>rfl) ((List.range m).map λi=>.int ((0:Int)+(i:Nat))) 0 [some (.int c),M⁻¹,~~~↥h,some (.ref (↥h+1)),none,none] g (λj x env hh hx hP=>by
  obtain⟨ws,e4,e5,rfl,p1,p2,p3,p4,p5⟩:=hP;obtain⟨hj,rfl⟩:=a0U hx;rw[aC] at p4⊢;have a10:((j:Nat):Int)+10=((j+10:Nat):Int):=by ac_nf
  obtain⟨N,hN⟩:=B9 (ct:=ct) (k:=k) (c:=c) (j:=((j+10:Nat):Int)) (h:=hh) bQ nofun;obtain⟨w,t,w1,w2⟩:=b0l (ct:=ct) (c:=b5 ct F (k+1)) (M:=N) (env:=[some (.int c),M⁻¹,~~~↥h,some (.ref (↥h+1)),j⁻¹,N⁻¹]) (h:=hh) rfl;refine⟨_,[some (.int c),M⁻¹,~~~↥h,some (.ref (↥h+1)),j⁻¹,N⁻¹],(hh++[t]).set (↥h+1) (.lst ((ws.map λw=>D.int ((w:Nat):Int))++[.int ((w:Nat):Int)])),rfl,?_,ws++[w],_,_,rfl,(p1.app _).set (Nat.le_succ _),b9 nofun (b6 p2),?_,by rw[au,p4];rfl,λx hx=>?_⟩
  · show exs ct (b5 ct F (k+1)) wB [some (.int c),M⁻¹,~~~↥h,some (.ref (↥h+1)),j⁻¹,e5] hh=_;unfold wB;rw[seq (by simp![op2,o8,a10,hN];rfl)];simp![D3 p3,w2,K0 (b6 (g:=[t]) p3) (by rw[aa,p4];ac_nf)]
  · rw[w6 (b6 p3)];simp
  · rcases aN.mp hx with hx|hx
    · exact p5 x hx
    · rw[aR.mp hx];exact w1) ⟨[],none,none,rfl,pf,gN,gW,rfl,λ_ h=>nomatch h⟩
 rw[aa,aL,aC] at q5;rw[seq (by simp![len,W3 (h:=g) (m:=m) nofun,e1];rfl)];have cz:=o6 (ct:=ct) (c:=b5 ct F (k+1)) (p:=.tp (.nm 0>=>.nm 1>=>.nil)) (it:=.zip (.v 2) (.v 3)) (n:=2) (fr:=[]) (e:=.tup (.v 0>=>.o (.v 1))) (env:=[some (.int c),M⁻¹,~~~↥h,some (.ref (↥h+1)),e4,e5]) (h:=g') (l:=Q8 (ns.map .str) (ws.map λw=>.int ((w:Nat):Int))) (g:=[(↥h,.lst (ns.map .str)),(↥h+1,.lst (ws.map λw=>.int ((w:Nat):Int)))]) (h1:=g') (by simp![a9g,a5T,Z8,q3,q4]) (by simp[gOk,q3,q4]) id (λd=>match d with|.tup [a,b]=>[some a,some b]|_=>[]) (λx hx=>by
  rw[a2J] at hx;obtain⟨p,_,rfl⟩:=ao.mp hx;refine⟨rfl,?_⟩;simp![id]) (by
  rw[a2J];unfold shD;rw[aa,length_zip];show _<=16777216;have:=nk.len;ac_nf)
 rw[map_id,a2J] at cz;have zl:↥(ns.zip ws)=m:=by rw[length_zip,nk.len,q5];ac_nf
 have zf:(ns.zip ws).map (·.1)=ns:=by rw[List.map_fst_zip];rw[nk.len,q5];exact aj _
 refine⟨ns.zip ws,⟨by ac_nf,by ac_nf,by rw[zf];exact nk.nd,λp hp=>⟨nk.ok _ (of_mem_zip hp).1,q6 _ (of_mem_zip hp).2⟩⟩,?_⟩;simp![cz];exact a2G (q2.app _) b7 q2.len (b2q _)
end
noncomputable def spD(p:Int×Int):D:=.tup [.int p.1,.int p.2]
def a0u(p:Int×Int):Prop:=(-99999<=p.1/\p.1<=99999)/\ -99999<=p.2/\p.2<=99999
structure Mk where
 n:Str
 s:Str
 a:Int×Int
 b:Int×Int
def mkD(m:Mk):D:=.tup [.str m.n,.str m.s,spD m.a,spD m.b]
def a0I(s:Str):Prop:=s="above"∨s="below"
variable{sh:List (Str×Nat)}
theorem a7t(hj:j<↥sh):(shD sh)[j]? =some (.tup [.str (sh[j]).1,.int ((sh[j]).2:Int)]):=by unfold shD;rw[ak,ai hj];rfl
theorem ix_tup{i:Nat}(hd:xs[i]? =some d):ixD h (.tup xs) (.int (i:Nat))=.ok d h:=by
 have hi:=(ac.mp hd).1;have:atI xs (i:Int)=some d:=by
  show(ixN ↥xs (i:Int)).bind (λj=>xs[j]?)=some d;have e:ixN ↥xs (i:Int)=some i:=by unfold ixN;rw[az nofun,az nofun];simp
  rw[e];exact hd
 simp only[ixD,this]
theorem a0S{a:D}{r:List D}:ixD h (.tup (a::r)) (.int 0)=.ok a h:=ix_tup (i:=0) rfl
variable{β:Type}
section
variable{ct:CT}{F:Nat->Option Fn}
theorem a4V{k m:Nat}(hF:F 205=some C1):∃p,a0u p/\b5 ct F (k+1) 205 [.int (m:Int)] h=.ok (spD p) h:=by
 have m41:∀h,v0 h ⇑m (.int 41)=.ok ⇑(m%41) h:=λh=>B8 41 ∅;have d41:∀h,u0 h ⇑m (.int 41)=.ok ⇑(m/41) h:=λh=>J1 41 ∅ ∅;have d7:∀h,u0 h ⇑m (.int 7)=.ok ⇑(m/7) h:=λh=>J1 7 ∅ ∅;have m9:∀(a:Nat) h,v0 h ⇑a (.int 99999)=.ok ⇑(a%99999) h:=λa h=>B8 99999 ∅;have m3:∀(a:Nat) h,v0 h ⇑a (.int 3)=.ok ⇑(a%3) h:=λa h=>B8 3 ∅;have sb:∀h,a4u h ⇑(m%41) (.int 20)=.ok (.int (((m%41:Nat):Int)-20)) h:=λh=>rfl;have l9:m/41%99999<99999:=Nat.mod_lt _ ∅;have l41:m%41<41:=Nat.mod_lt _ ∅;have ix:∃y:Int,(-99999<=y/\y<=99999)/\([.int 0,.int ((m/41%99999:Nat):Int),.int (-((m/41%99999:Nat):Int))]:List D)[m/7%3]? =some (.int y):=by
  have:m/7%3=0∨m/7%3=1∨m/7%3=2:=(by decide:∀r:Nat,r<3->r=0∨r=1∨r=2) (m/7%3) (Nat.mod_lt _ ∅);rcases this with e|e|e<;>rw[e]
  · exact⟨0,by decide,rfl⟩
  · exact⟨_,by ac_nf,rfl⟩
  · exact⟨_,by ac_nf,rfl⟩
 obtain⟨y,y1,y2⟩:=ix;refine⟨(((m%41:Nat):Int)-20,y),⟨by simp only;ac_nf,y1⟩,?_⟩;have hx:ixD (h++[.lst [.int 0,.int ((m/41%99999:Nat):Int),.int (-((m/41%99999:Nat):Int))]]) (.ref ↥h) ⇑(m/7%3)=.ok (.int y) (h++[.lst [.int 0,.int ((m/41%99999:Nat):Int),.int (-((m/41%99999:Nat):Int))]]):=r8 b7 y2;rw[i6 hF rfl];simp only[C1];simp![op2,m41,sb,d41,m9,d7,m3,v8,hx];exact gc1 rfl
theorem b3Q(he:env[4]? =some (M⁻¹)):∃s t,a0I s/\ev ct c b0C env h=.ok (.str s) (h++[t]):=by
 have d4:∀h,u0 h ⇑M (.int 4)=.ok ⇑(M/4) h:=λh=>J1 4 ∅ ∅;have m2:∀(a:Nat) h,v0 h ⇑a (.int 2)=.ok ⇑(a%2) h:=λa h=>B8 2 ∅;have ix:∃s:Str,a0I s/\([.str "above",.str "below"]:List D)[M/4%2]? =some (.str s):=by
  have:M/4%2=0∨M/4%2=1:=(by decide:∀r:Nat,r<2->r=0∨r=1) (M/4%2) (Nat.mod_lt _ ∅);rcases this with e|e<;>rw[e]
  · exact⟨"above",.inl rfl,rfl⟩
  · exact⟨"below",.inr rfl,rfl⟩
 obtain⟨s,s1,s2⟩:=ix;refine⟨s,.lst [.str "above",.str "below"],s1,?_⟩;have hx:ixD (h++[.lst [.str "above",.str "below"]]) (.ref ↥h) ⇑(M/4%2)=.ok (.str s) (h++[.lst [.str "above",.str "below"]]):=r8 b7 s2;unfold b0C;simp![he,op2,d4,m2,v8,hx]
theorem b2t(ms:List Mk):D.flats (ms.map mkD)=true:=D7 λd hd=>by obtain⟨p,_,rfl⟩:=ao.mp hd;rfl
theorem a6c{f:α->β}{l:List α}(hj:j<↥l){r:List β}(h:r.Sublist ((l.take j).map f)):r.Sublist ((l.take (j+1)).map f)/\(r++[f l[j]]).Sublist ((l.take (j+1)).map f):=by rw[take_succ_eq_append_getElem hj,aq];exact⟨h.trans (List.sublist_append_left _ _),h.append (List.Sublist.refl _)⟩
variable(bQ:F 202=some p8)(da:F 205=some C1)
include bQ da
theorem b1z{k s:Nat}{c:Int}(hF:F 206=some F5)(hs:Shs sh)(hh:h[s]? =some (.lst (shD sh))):∃ms:List Mk,(ms.map (·.n)).Sublist (sh.map (·.1))/\(∀m∈ms,a0I m.s/\a0u m.a/\a0u m.b)/\b5 ct F (k+2) 206 [.int c,.ref s] h=.ok (.ref ↥h) (h++[.lst (ms.map mkD)]):=by
 have sl:s<↥h:=(ac.mp hh).1;have hi:=hs.hi;rw[i6 hF rfl];simp only[F5];rw[seq (by simp![v8];rfl)];have len:biD .len (h++[.lst []]) [.ref s]=.ok ⇑↥sh (h++[.lst []]):=by rw[n9 (b6 hh)];unfold shD;rw[aa]
 obtain⟨bI,g',e1,ms,e3,e4,e5,rfl,q2,q3,q4,q5⟩:=A9 (g:=[]) (p:=.nm 3) (body:=exs ct (b5 ct F (k+1)) mkB) (λj env g=>∃ms:List Mk,∃e3 e4 e5,env=[some (.int c),~~~s,~~~↥h,e3,e4,e5]/\Pf h g/\g[↥h]? =some (.lst (ms.map mkD))/\(ms.map (·.n)).Sublist ((sh.take j).map (·.1))/\∀m∈ms,a0I m.s/\a0u m.a/\a0u m.b) (λ_ _ _ _=>rfl) ((List.range ↥sh).map λi=>.int ((0:Int)+(i:Nat))) 0 [some (.int c),~~~s,~~~↥h,none,none,none] (h++[.lst []]) (λj x env g hx hP=>by
  obtain⟨ms,e3,e4,e5,rfl,p1,p2,p3,p4⟩:=hP;obtain⟨hj,rfl⟩:=a0U hx;rw[aC] at p3⊢;obtain⟨t1,t2⟩:=a6c hj p3;have a40:((j:Nat):Int)+40=((j+40:Nat):Int):=by ac_nf
  obtain⟨N,hN⟩:=B9 (ct:=ct) (k:=k) (c:=c) (j:=((j+40:Nat):Int)) (h:=g) bQ nofun;have m4:v0 g ⇑N (.int 4)=.ok ⇑(N%4) g:=B8 4 ∅;show∃bY bI h',_/\exs ct (b5 ct F (k+1)) mkB bY g=_/\_;unfold mkB
  by_cases hb:((N%4:Nat):Int)=1
  · have q1:J4 g ⇑(N%4) (.int 1)=.ok (.bl true) g:=by rw[hb];rfl
    obtain⟨sd,t,s1,s2⟩:=b3Q (ct:=ct) (c:=b5 ct F (k+1)) (M:=N) (env:=[some (.int c),~~~s,~~~↥h,j⁻¹,N⁻¹,e5]) (h:=g) rfl;obtain⟨pa,a1,a2⟩:=a4V (ct:=ct) (k:=k) (m:=N/8) (h:=g++[t]) da;obtain⟨pb,b1,b2⟩:=a4V (ct:=ct) (k:=k) (m:=N/8000) (h:=g++[t]) da;have d8:u0 (g++[t]) ⇑N (.int 8)=.ok ⇑(N/8) (g++[t]):=J1 8 ∅ ∅;have d8k:u0 (g++[t]) ⇑N (.int 8000)=.ok ⇑(N/8000) (g++[t]):=J1 8000 ∅ ∅;have sx:ixD (g++[t]) (.ref s) ⇑j=.ok (.tup [.str (sh[j]).1,.int ((sh[j]).2:Int)]) (g++[t]):=r8 (b6 (p1.at hh)) (a7t hj);have ml:↥(ms.map mkD)<1000000:=by have:=t1.length_le;rw[aa] at this⊢;rw[aa,aO] at this;ac_nf
    refine⟨_,[some (.int c),~~~s,~~~↥h,j⁻¹,N⁻¹,some (.str sd)],(g++[t]).set ↥h (.lst (ms.map mkD++[mkD ⟨(sh[j]).1,sd,pa,pb⟩])),rfl,?_,ms++[⟨(sh[j]).1,sd,pa,pb⟩],_,_,_,rfl,(p1.app _).set (aj _),?_,?_,λm hm=>?_⟩
    · show exs ct (b5 ct F (k+1)) _ [some (.int c),~~~s,~~~↥h,j⁻¹,e4,e5] g=_;rw[seq (by simp![op2,o8,a40,hN];rfl)];unfold b9O;simp![op2,m4,q1,s2,D3 (b6 (g:=[t]) p2),sx,a0S,d8,a2,d8k,b2,K0 (b6 (g:=[t]) p2) ml,mkD]
    · rw[w6 (b6 p2),aq];rfl
    · rw[aq];exact t2
    · rcases aN.mp hm with hm|hm
      · exact p4 m hm
      · rw[aR.mp hm];exact⟨s1,a1,b1⟩
  · have q1:J4 g ⇑(N%4) (.int 1)=.ok (.bl false) g:=by simp only[J4,eqS,hb,decide_false]
    refine⟨_,[some (.int c),~~~s,~~~↥h,j⁻¹,N⁻¹,e5],g,rfl,?_,ms,_,_,_,rfl,p1,p2,t1,p4⟩;rw[seq (by simp![op2,o8,a40,hN];rfl)];simp![op2,m4,q1]) ⟨[],none,none,none,rfl,(Pf.refl h).app _,b7,List.nil_sublist _,λ_ h=>nomatch h⟩
 rw[aa,aL,aC,bh] at q4;refine⟨ms,q4,q5,?_⟩;rw[seq (by simp![len,W3 (h:=h++[.lst []]) (m:=↥sh) nofun,e1];rfl)];simp![];exact a2G q2 q3 (aj _) (b2t _)
end
structure Pt where
 n:Str
 s:Str
 a:Int×Int
def ptD(p:Pt):D:=.tup [.str p.n,.str p.s,spD p.a]
def ptK(p:Pt):Str×Str:=(p.n,p.s)
theorem b2s(ms:List Pt):D.flats (ms.map ptD)=true:=D7 λd hd=>by obtain⟨p,_,rfl⟩:=ao.mp hd;rfl
variable{N:Nat}
section
variable{ct:CT}{F:Nat->Option Fn}
theorem a9p(N:Nat):∃l:List Str,P9 [.str "above",.str "below"] (some ((N%2:Nat):Int)) none=l.map .str/\l.Nodup/\(∀s∈l,a0I s)/\↥l<=2:=by
 have:N%2=0∨N%2=1:=(by decide:∀r:Nat,r<2->r=0∨r=1) (N%2) (Nat.mod_lt _ ∅);rw[M1];rcases this with e|e<;>rw[e]
 · exact⟨["above","below"],rfl,by decide,λs hs=>by simp only[aH,not_mem_nil,or_false] at hs;exact hs,by decide⟩
 · exact⟨["below"],rfl,by decide,λs hs=>.inr (aR.mp hs),by decide⟩
variable(bQ:F 202=some p8)(da:F 205=some C1)
include da
theorem b0T{k s a:Nat}{c:Int}{ps:List Pt}{l:List Str}(hh:h[s]? =some (.lst (shD sh)))(hj:j<↥sh)(ha:a=↥h)(hn:a<n)(p1:Pf h g)(p2:g[a]? =some (.lst (ps.map ptD)))(p3:g[n]? =some (.lst (l.map .str)))(hl:↥ps<=1000)(l2:↥l<=2)(e5:Option D)(sd:∀s∈l,a0I s):
 ∃qs eZ g',K8 [(n,.lst (l.map .str))] (.nm 5) (exs ct (b5 ct F (k+1)) b0W) (l.map .str) [some (.int c),~~~s,~~~a,j⁻¹,N⁻¹,e5] g=.ok (.nx [some (.int c),~~~s,~~~a,j⁻¹,N⁻¹,eZ]) g'/\Pf h g'/\g'[a]? =some (.lst ((ps++qs).map ptD))/\(qs.map ptK).Sublist (l.map λs=>((sh[j]).1,s))/\∀q∈qs,a0I q.s/\a0u q.a:=by
 obtain⟨bI,g',e1,qs,eZ,rfl,q1,q2,q3,q4,q5⟩:=A9 (g:=[(n,.lst (l.map .str))]) (p:=.nm 5) (body:=exs ct (b5 ct F (k+1)) b0W) (λi env gg=>∃qs:List Pt,∃e5,env=[some (.int c),~~~s,~~~a,j⁻¹,N⁻¹,e5]/\Pf h gg/\gg[a]? =some (.lst ((ps++qs).map ptD))/\gg[n]? =some (.lst (l.map .str))/\(qs.map ptK).Sublist ((l.take i).map λs=>((sh[j]).1,s))/\∀q∈qs,a0I q.s/\a0u q.a) (λi env gg hP=>by
  obtain⟨_,_,_,_,_,h3,_⟩:=hP;simp[gOk,h3]) (l.map .str) 0 [some (.int c),~~~s,~~~a,j⁻¹,N⁻¹,e5] g (λi x env gg hx hP=>by
  obtain⟨qs,e5,rfl,r1,r2,r3,r4,r5⟩:=hP;have hi:i<↥l:=by simpa using(ac.mp hx).1
  rw[ak,ai hi] at hx;obtain rfl:D.str l[i]=x:=ay hx;rw[aC] at r4⊢;obtain⟨t1,t2⟩:=a6c (f:=λs=>((sh[j]).1,s)) hi r4;have d2:∀h,u0 h ⇑N (.int 2)=.ok ⇑(N/2) h:=λh=>J1 2 ∅ ∅;have m3:∀(a:Nat) h,v0 h ⇑a (.int 3)=.ok ⇑(a%3) h:=λa h=>B8 3 ∅;have d6:u0 gg ⇑N (.int 6)=.ok ⇑(N/6) gg:=J1 6 ∅ ∅;show∃bY bI h',_/\exs ct (b5 ct F (k+1)) b0W bY gg=_/\_;unfold b0W
  by_cases hb:(0:Int)<((N/2%3:Nat):Int)
  · obtain⟨p,a1,a2⟩:=a4V (ct:=ct) (k:=k) (m:=N/6) (h:=gg) da;have sx:ixD gg (.ref s) ⇑j=.ok (.tup [.str (sh[j]).1,.int ((sh[j]).2:Int)]) gg:=r8 (r1.at hh) (a7t hj);have ml:↥((ps++qs).map ptD)<1000000:=by have:=t1.length_le;rw[aa,au];rw[aa,aa,aO] at this;ac_nf
    refine⟨_,[some (.int c),~~~s,~~~a,j⁻¹,N⁻¹,some (.str l[i])],gg.set a (.lst ((ps++qs).map ptD++[ptD ⟨(sh[j]).1,l[i],p⟩])),rfl,?_,qs++[⟨(sh[j]).1,l[i],p⟩],_,rfl,r1.set nofun,?_,b9 nofun r3,?_,λq hq=>?_⟩
    · show exs ct (b5 ct F (k+1)) _ [some (.int c),~~~s,~~~a,j⁻¹,N⁻¹,some (.str l[i])] gg=_;simp![op2,d2,m3,G5,hb,decide_true,D3 r2,sx,a0S,d6,a2,K0 r2 ml,ptD]
    · rw[w6 r2,←aB,aq (l₁:=ps++qs)];rfl
    · rw[aq];exact t2
    · rcases aN.mp hq with hq|hq
      · exact r5 q hq
      · rw[aR.mp hq];exact⟨sd _ (bu hi),a1⟩
  · refine⟨_,[some (.int c),~~~s,~~~a,j⁻¹,N⁻¹,some (.str l[i])],gg,rfl,?_,qs,_,rfl,r1,r2,r3,t1,r5⟩;simp![op2,d2,m3,G5,hb,decide_false]) ⟨[],e5,rfl,p1,by rw[bc];exact p2,p3,List.nil_sublist _,λ_ h=>nomatch h⟩
 rw[aa,aC,bh] at q4;exact⟨qs,eZ,g',e1,q1,q2,q4,q5⟩
include bQ
theorem a9A{k s:Nat}{c:Int}(hF:F 207=some E1)(hs:Shs sh)(hh:h[s]? =some (.lst (shD sh))):∃ps:List Pt,(ps.map ptK).Nodup/\↥ps<=100/\(∀p∈ps,p.n∈sh.map (·.1)/\a0I p.s/\a0u p.a)/\b5 ct F (k+2) 207 [.int c,.ref s] h=.ok (.ref ↥h) (h++[.lst (ps.map ptD)]):=by
 have hi:=hs.hi;rw[i6 hF rfl];simp only[E1];rw[seq (by simp![v8];rfl)];have len:biD .len (h++[.lst []]) [.ref s]=.ok ⇑↥sh (h++[.lst []]):=by rw[n9 (b6 hh)];unfold shD;rw[aa]
 obtain⟨bI,g',e1,ps,e3,e4,e5,rfl,q2,q3,q4,q5,q6,q7⟩:=A9 (g:=[]) (p:=.nm 3) (body:=exs ct (b5 ct F (k+1)) ptB) (λj env g=>∃ps:List Pt,∃e3 e4 e5,env=[some (.int c),~~~s,~~~↥h,e3,e4,e5]/\Pf h g/\g[↥h]? =some (.lst (ps.map ptD))/\(ps.map ptK).Nodup/\↥ps<=2*j/\(∀p∈ps,p.n∈(sh.take j).map (·.1))/\∀p∈ps,a0I p.s/\a0u p.a) (λ_ _ _ _=>rfl) ((List.range ↥sh).map λi=>.int ((0:Int)+(i:Nat))) 0 [some (.int c),~~~s,~~~↥h,none,none,none] (h++[.lst []]) (λj x env g hx hP=>by
  obtain⟨ps,e3,e4,e5,rfl,p1,p2,p3,p4,p5,p6⟩:=hP;obtain⟨hj,rfl⟩:=a0U hx;rw[aC] at p4 p5⊢;have a70:((j:Nat):Int)+70=((j+70:Nat):Int):=by ac_nf
  obtain⟨N,hN⟩:=B9 (ct:=ct) (k:=k) (c:=c) (j:=((j+70:Nat):Int)) (h:=g) bQ nofun;have m2:∀h,v0 h ⇑N (.int 2)=.ok ⇑(N%2) h:=λh=>B8 2 ∅;obtain⟨l,l1,l2,l3,l4⟩:=a9p N;have sl:slD (g++[.lst [.str "above",.str "below"]]) (some ((N%2:Nat):Int)) none (.ref ↥g)=.ok (.ref (↥g+1)) (g++[.lst [.str "above",.str "below"]]++[.lst (l.map .str)]):=by rw[K6 b7,l1];simp
  have gl:↥h<↥g:=(ac.mp p2).1;have gn:(g++[Cell.lst [.str "above",.str "below"]]++[.lst (l.map .str)])[↥g+1]? =some (.lst (l.map .str)):=by have:=b7 (h:=g++[Cell.lst [.str "above",.str "below"]]) (c:=.lst (l.map .str));rw[au] at this;exact this
  obtain⟨qs,eZ,g2,f1,f2,f3,f4,f5⟩:=b0T (ct:=ct) (k:=k) (c:=c) (N:=N) da hh hj rfl (Nat.lt_trans gl (aV _)) ((p1.app _).app _) (b6 (b6 p2)) gn nofun l4 e5 l3;have nw:(sh[j]).1∉(sh.take j).map (·.1):=λhm=>by have nd:=hs.nd;rw[←take_append_drop j sh,drop_eq_getElem_cons hj,aq,map_cons] at nd;have:=nodup_append.mp nd;exact this.2.2 _ hm _ (.head _) rfl
  refine⟨_,[some (.int c),~~~s,~~~↥h,j⁻¹,N⁻¹,eZ],g2,rfl,?_,ps++qs,_,_,_,rfl,f2,f3,?_,?_,λp hp=>?_,λp hp=>?_⟩
  · show exs ct (b5 ct F (k+1)) ptB [some (.int c),~~~s,~~~↥h,j⁻¹,e4,e5] g=_;unfold ptB;rw[seq (by simp![op2,o8,a70,hN];rfl)];simp![v8,op2,m2,sl,M3,gn,f1]
  · rw[aq];refine nodup_append.mpr ⟨p3,f4.nodup (a0B _ l2 λa _ b _ e=>(Prod.mk.inj e).2),λa ha b hb e=>?_⟩;obtain⟨p,hp,rfl⟩:=ao.mp ha;have hb:=f4.subset hb;obtain⟨y,_,rfl⟩:=ao.mp hb;refine nw ?_;have e1:p.n=(sh[j]).1:=(Prod.mk.inj e).1;rw[←e1];exact p5 p hp
  · have:=f4.length_le;rw[aa,aa] at this;rw[au];ac_nf
  · rw[take_succ_eq_append_getElem hj,aq];rcases aN.mp hp with hp|hp
    · exact mem_append_left _ (p5 p hp)
    · have:=f4.subset (List.mem_map_of_mem hp);obtain⟨y,_,e⟩:=ao.mp this;refine mem_append_right _ ?_;have e1:(sh[j]).1=p.n:=(Prod.mk.inj e).1;rw[←e1];exact .head _
  · rcases aN.mp hp with hp|hp
    · exact p6 p hp
    · exact f5 p hp) ⟨[],none,none,none,rfl,(Pf.refl h).app _,b7,nodup_nil,Nat.zero_le _,(λ_ h=>nomatch h),λ_ h=>nomatch h⟩
 rw[aa,aL,aC] at q5 q6;rw[bh] at q6;refine⟨ps,q4,by ac_nf,λp hp=>⟨q6 p hp,q7 p hp⟩,?_⟩;rw[seq (by simp![len,W3 (h:=h++[.lst []]) (m:=↥sh) nofun,e1];rfl)];simp![];exact a2G q2 q3 (aj _) (b2s _)
end
noncomputable def pk(sh:List (Str×Nat))(x:Nat):Str:=match sh[x%↥sh]? with
 |some p=>p.1
 |none=>""
theorem a6q(hs:4<=↥sh)(x:Nat):pk sh x∈sh.map (·.1)/\∃w,(shD sh)[x%↥sh]? =some (.tup [.str (pk sh x),w]):=by have lt:x%↥sh<↥sh:=Nat.mod_lt _ nofun;unfold pk;rw[ai lt];exact⟨List.mem_map_of_mem (bu lt),_,a7t lt⟩
structure Lt where
 n:Str
 j:Str
 w:Str
 fs:List Str
noncomputable def ltD(l:Lt):D:=.tup [.str l.n,.str l.j,.str l.w,.tup (l.fs.map .str)]
structure LtOk(sh:List (Str×Nat))(l:Lt):Prop where
 nm:g9 l.n=true
 jn:o0 a3I (.str l.j)=some (.int ↥l.fs)
 few:1<=↥l.fs/\↥l.fs<=4
 wy:inD (.str l.w) [.str "left",.str "right",.str "either"]=true
 js:l.j="both"∨l.j="back"∨l.j="none"∨l.j="clear"
 ws:l.w="left"∨l.w="right"∨l.w="either"
 fs:∀f∈l.fs,f∈sh.map (·.1)
theorem b2u(ms:List Lt):D.flats (ms.map ltD)=true:=D7 λd hd=>by obtain⟨p,_,rfl⟩:=ao.mp hd;show D.flats [.str p.n,.str p.j,.str p.w,.tup (p.fs.map .str)]=true;simp only[D.flats,D.flat,C2,Bool.and_self]
noncomputable def jnL:List Str:=["both","back","none","both","clear","both"]
theorem b9T(i:Nat):∃j n,jnL[i%6]? =some j/\o0 jnD (.str j)=some ⇑(n)/\D6 (.str j) jnD=true/\o0 a3I (.str j)=some ⇑(n)/\(1<=n/\n<=4)/\(j="both"∨j="back"∨j="none"∨j="clear"):=by
 have:i%6=0∨i%6=1∨i%6=2∨i%6=3∨i%6=4∨i%6=5:=(by decide:∀r:Nat,r<6->r=0∨r=1∨r=2∨r=3∨r=4∨r=5) (i%6) (Nat.mod_lt _ ∅);rcases this with e|e|e|e|e|e<;>rw[e]
 · exact⟨"both",4,rfl,by decide,by decide,by decide,by decide,.inl rfl⟩
 · exact⟨"back",2,rfl,by decide,by decide,by decide,by decide,.inr (.inl rfl)⟩
 · exact⟨"none",1,rfl,by decide,by decide,by decide,by decide,.inr (.inr (.inl rfl))⟩
 · exact⟨"both",4,rfl,by decide,by decide,by decide,by decide,.inl rfl⟩
 · exact⟨"clear",1,rfl,by decide,by decide,by decide,by decide,.inr (.inr (.inr rfl))⟩
 · exact⟨"both",4,rfl,by decide,by decide,by decide,by decide,.inl rfl⟩
noncomputable def wyL:List Str:=["left","right","either"]
theorem b8V(i:Nat):∃w,wyL[i%3]? =some w/\inD (.str w) [.str "left",.str "right",.str "either"]=true/\(w="left"∨w="right"∨w="either"):=by
 have:i%3=0∨i%3=1∨i%3=2:=(by decide:∀r:Nat,r<3->r=0∨r=1∨r=2) (i%3) (Nat.mod_lt _ ∅);rcases this with e|e|e<;>rw[e]
 · exact⟨"left",rfl,by decide,.inl rfl⟩
 · exact⟨"right",rfl,by decide,.inr (.inl rfl)⟩
 · exact⟨"either",rfl,by decide,.inr (.inr rfl)⟩
variable{ls:List Lt}
section
variable{ct:CT}{F:Nat->Option Fn}
theorem a5n{s:Nat}(hh:g[s]? =some (.lst (shD sh))):biD .len g [.ref s]=.ok ⇑↥sh g:=by rw[n9 hh];unfold shD;rw[aa]
theorem a8D{s x:Nat}(hs:4<=↥sh)(hh:g[s]? =some (.lst (shD sh))):∃w,ixD g (.ref s) ⇑(x%↥sh)=.ok (.tup [.str (pk sh x),w]) g:=by obtain⟨_,w,e⟩:=a6q hs x;exact⟨w,r8 hh e⟩
theorem b2C{s m:Nat}(hs:4<=↥sh)(hh:g[s]? =some (.lst (shD sh)))(e1:env[1]? =some (~~~s))(e6:env[6]? =some (N⁻¹))(e8:env[8]? =some (m⁻¹))(hm:m<=1000):
 ev ct c fcE env g=.ok (.ref ↥g) (g++[.lst ((List.range m).map λi=>.str (pk sh (N/(i*i*31+7))))]):=by
 unfold fcE;refine W1 (λi=>.str (pk sh (N/(i*i*31+7)))) (by simp![e8]) nofun λi hi=>?_;have ii:i*i<=1000000:=Nat.mul_le_mul (show i<=1000 by ac_nf) (show i<=1000 by ac_nf);have m1:O4 g ⇑i ⇑i=.ok ⇑(i*i) g:=by rw[M9 nofun];congr 2
 have m2:O4 g ⇑(i*i) (.int 31)=.ok ⇑(i*i*31) g:=by rw[M9 ∅];congr 2
 have a7:((i*i*31:Nat):Int)+7=((i*i*31+7:Nat):Int):=by ac_nf
 obtain⟨w,ix⟩:=a8D (x:=N/(i*i*31+7)) hs hh;simp![e1,e6,T4,op2,m1,m2,o8,a7,J1 (i*i*31+7) nofun nofun,a5n hh,B8 sh.length nofun,ix,a0S]
variable(bQ:F 202=some p8)(cp:F 203=some o9)
include bQ
theorem a6A{k s a N0:Nat}{c:Int}{ns:List Str}(hs:4<=↥sh)(hh:h[s]? =some (.lst (shD sh)))(hj:j<↥ns)(n6:↥ns<=100)(ll:↥ls<=1000)(hn:g9 ns[j]=true)(ha:a=↥h)(p1:Pf h g)(p2:g[a]? =some (.lst (ns.map .str)))(p3:g[a+1]? =some (.lst (ls.map ltD)))(e6 e7 e8 e9:Option D):
 ∃l x6 x7 x8 x9 g',LtOk sh l/\l.n=ns[j]/\exs ct (b5 ct F (k+1)) lB [some (.int c),~~~s,N0⁻¹,~~~a,some (.ref (a+1)),j⁻¹,e6,e7,e8,e9] g=.ok (.nx [some (.int c),~~~s,N0⁻¹,~~~a,some (.ref (a+1)),j⁻¹,x6,x7,x8,x9]) g'/\Pf h g'/\g'[a]? =some (.lst (ns.map .str))/\g'[a+1]? =some (.lst ((ls++[l]).map ltD)):=by
 have a100:((j:Nat):Int)+100=((j+100:Nat):Int):=by ac_nf
 obtain⟨N,hN⟩:=B9 (ct:=ct) (k:=k) (c:=c) (j:=((j+100:Nat):Int)) (h:=g) bQ nofun;obtain⟨jn,m,j1,j2,j3,j4,j5,j6⟩:=b9T N;obtain⟨wy,w1,w2,w3⟩:=b8V (N/6);have m6:∀h,v0 h ⇑N (.int 6)=.ok ⇑(N%6) h:=λh=>B8 6 ∅;have d6:∀h,u0 h ⇑N (.int 6)=.ok ⇑(N/6) h:=λh=>J1 6 ∅ ∅;have m3:∀(a:Nat) h,v0 h ⇑a (.int 3)=.ok ⇑(a%3) h:=λa h=>B8 3 ∅;have je:∀(env:u9) (h:AH),ev ct (b5 ct F (k+1)) jnE env h=.ok (.ref ↥h) (h++[.lst (jnL.map .str)]):=λenv h=>by unfold jnE jnL;simp![v8]
 have we:∀(env:u9) (h:AH),ev ct (b5 ct F (k+1)) wyE env h=.ok (.ref ↥h) (h++[.lst (wyL.map .str)]):=λenv h=>by unfold wyE wyL;simp![v8]
 have jx:∀h:AH,ixD (h++[.lst (jnL.map .str)]) (.ref ↥h) ⇑(N%6)=.ok (.str jn) (h++[.lst (jnL.map .str)]):=λh=>r8 b7 (by rw[ak,j1];rfl);have wx:∀h:AH,ixD (h++[.lst (wyL.map .str)]) (.ref ↥h) ⇑(N/6%3)=.ok (.str wy) (h++[.lst (wyL.map .str)]):=λh=>r8 b7 (by rw[ak,w1];rfl);have dx:∀h:AH,ixD (h++[.dict jnD]) (.ref ↥h) (.str jn)=.ok ⇑(m) (h++[.dict jnD]):=λh=>by simp only[ixD,b7,j3,if_true,j2]
 have fl:((List.range m).map λi=>D.str (pk sh (N/(i*i*31+7))))=((List.range m).map λi=>pk sh (N/(i*i*31+7))).map .str:=by rw[aK];rfl
 refine⟨⟨ns[j],jn,wy,(List.range m).map λi=>pk sh (N/(i*i*31+7))⟩,N⁻¹,some (.str jn),m⁻¹,some (.tup (((List.range m).map λi=>pk sh (N/(i*i*31+7))).map .str)),(g++[Cell.lst (jnL.map .str)]++[Cell.dict jnD]++[Cell.lst (((List.range m).map λi=>pk sh (N/(i*i*31+7))).map .str)]++[Cell.lst (wyL.map .str)]).set (a+1) (.lst (ls.map ltD++[ltD ⟨ns[j],jn,wy,(List.range m).map λi=>pk sh (N/(i*i*31+7))⟩])),⟨hn,by simpa using j4,by simpa using j5,w2,j6,w3,λf hf=>?_⟩,rfl,?_,?_,?_,?_⟩
 · obtain⟨i,_,rfl⟩:=ao.mp hf;exact(a6q hs _).1
 · unfold lB;rw[seq (by simp![op2,o8,a100,hN];rfl)];rw[seq (by simp![je,op2,m6,jx];rfl)];have P1:Pf h (g++[.lst (jnL.map .str)]):=p1.app _;have A1:=b6 (g:=[.lst (jnL.map .str)]) p2;have B1:=b6 (g:=[.lst (jnL.map .str)]) p3;generalize g++[Cell.lst (jnL.map .str)]=g1 at*
   unfold lB3;rw[seq (by simp![b5n,v8,dx];rfl)];have P2:Pf h (g1++[.dict jnD]):=P1.app _;have A2:=b6 (g:=[.dict jnD]) A1;have B2:=b6 (g:=[.dict jnD]) B1;generalize g1++[Cell.dict jnD]=g2 at*
   unfold lB4;have fo:=b2C (ct:=ct) (c:=b5 ct F (k+1)) (s:=s) (N:=N) (m:=m) (env:=[some (.int c),~~~s,N0⁻¹,~~~a,some (.ref (a+1)),j⁻¹,N⁻¹,some (.str jn),m⁻¹,e9]) (g:=g2) hs (P2.at hh) rfl rfl rfl nofun;rw[fl] at fo;generalize ((List.range m).map λi=>pk sh (N/(i*i*31+7)))=fs at*
   rw[seq (by simp![fo,N7 b7];rfl)];have A3:=b6 (g:=[.lst (fs.map .str)]) A2;have B3:=b6 (g:=[.lst (fs.map .str)]) B2;generalize g2++[Cell.lst (fs.map .str)]=g3 at*
   unfold lB5;have nx:ixD g3 (.ref a) ⇑j=.ok (.str ns[j]) g3:=r8 A3 (by rw[ak,ai hj];rfl);simp![D3 B3,nx,we,op2,d6,m3,wx,K0 (b6 (g:=[.lst (wyL.map .str)]) B3) (by rw[aa];ac_nf),ltD]
 · exact((((p1.app _).app _).app _).app _).set nofun
 · exact b9 nofun (b6 (b6 (b6 (b6 p2))))
 · rw[w6 (b6 (b6 (b6 (b6 p3)))),aq];rfl
include cp
theorem a7E{k s:Nat}{c:Int}(hF:F 208=some D0)(hs:Shs sh)(hh:h[s]? =some (.lst (shD sh))):∃ls:List Lt,(1<=↥ls/\↥ls<=6)/\(ls.map (·.n)).Nodup/\(∀l∈ls,LtOk sh l)/\b5 ct F (k+2) 208 [.int c,.ref s] h=.ok (.ref ↥h) (h++[.lst (ls.map ltD)]):=by
 obtain⟨M,hM⟩:=B9 (ct:=ct) (k:=k) (c:=c) (j:=2) (h:=h) bQ ∅;have d6:u0 h ⇑M (.int 6)=.ok ⇑(M/6) h:=J1 6 ∅ ∅;have m6:v0 h ⇑M (.int 6)=.ok ⇑(M%6) h:=B8 6 ∅;have a1:(1:Int)+((M%6:Nat):Int)=((1+M%6:Nat):Int):=by ac_nf
 have l6:M%6<6:=Nat.mod_lt _ ∅;obtain⟨ns,nk,hN⟩:=Z2 (ct:=ct) (k:=k) (c:=M/6) (m:=1+M%6) (h:=h) cp nofun;generalize hm:1+M%6=m at nk hN a1;rw[i6 hF rfl];simp only[D0];rw[seq (by simp![hM];rfl)];rw[seq (by simp![op2,d6,m6,o8,a1,hN];rfl)];have l1:↥(h++[Cell.lst (ns.map D.str)])=↥h+1:=by simp
 rw[seq (by simp![v8,l1];rfl)];have gN:(h++[Cell.lst (ns.map D.str)]++[Cell.lst []])[↥h]? =some (.lst (ns.map .str)):=b6 b7;have gW:(h++[Cell.lst (ns.map D.str)]++[Cell.lst []])[↥h+1]? =some (.lst []):=by rw[←l1];exact b7
 have pf:Pf h (h++[Cell.lst (ns.map D.str)]++[Cell.lst []]):=((Pf.refl h).app _).app _;generalize h++[Cell.lst (ns.map D.str)]++[Cell.lst []]=g at gN gW pf;have len:biD .len g [.ref ↥h]=.ok ⇑m g:=by rw[n9 gN,aa,nk.len]
 obtain⟨bI,g',e1,ls,e5,e6,e7,e8,e9,rfl,q2,q3,q4,q5,q6⟩:=A9 (g:=[]) (p:=.nm 5) (body:=exs ct (b5 ct F (k+1)) lB) (λj env hh=>∃ls:List Lt,∃e5 e6 e7 e8 e9,env=[some (.int c),~~~s,M⁻¹,~~~↥h,some (.ref (↥h+1)),e5,e6,e7,e8,e9]/\Pf h hh/\hh[↥h]? =some (.lst (ns.map .str))/\hh[↥h+1]? =some (.lst (ls.map ltD))/\ls.map (·.n)=ns.take j/\∀l∈ls,LtOk sh l) (λ_ _ _ _=>rfl) ((List.range m).map λi=>.int ((0:Int)+(i:Nat))) 0 [some (.int c),~~~s,M⁻¹,~~~↥h,some (.ref (↥h+1)),none,none,none,none,none] g (λj x env hg hx hP=>by
  obtain⟨ls,e5,e6,e7,e8,e9,rfl,p1,p2,p3,p4,p5⟩:=hP;obtain⟨hj,rfl⟩:=a0U hx;rw[aC] at p4⊢;have hj':j<↥ns:=by rw[nk.len];exact hj
  have ll:↥ls<=1000:=by have:=congrArg List.length p4;rw[aa,aO] at this;ac_nf
  obtain⟨l,x6,x7,x8,x9,g',t1,t2,t3,t4,t5,t6⟩:=a6A (k:=k) (c:=c) (N0:=M) bQ hs.lo hh hj' (by rw[nk.len];ac_nf) ll (nk.ok _ (bu hj')) rfl p1 p2 p3 e6 e7 e8 e9;refine⟨_,_,g',rfl,t3,ls++[l],_,_,_,_,_,rfl,t4,t5,t6,?_,λy hy=>?_⟩
  · rw[aq,p4,take_succ_eq_append_getElem hj',←t2];rfl
  · rcases aN.mp hy with hy|hy
    · exact p5 y hy
    · rw[aR.mp hy];exact t1) ⟨[],none,none,none,none,none,rfl,pf,gN,gW,rfl,λ_ h=>nomatch h⟩
 rw[aa,aL,aC,←nk.len,bh] at q5;have ln:↥ls=m:=by rw[←nk.len,←q5,aa]
 refine⟨ls,by ac_nf,by rw[q5];exact nk.nd,q6,?_⟩;rw[seq (by simp![len,W3 (h:=g) (m:=m) nofun,e1];rfl)];simp![];exact a2G q2 q4 (Nat.le_succ _) (b2u _)
end
structure Cs where
 n:Str
 fs:List Str
noncomputable def csD(c:Cs):D:=.tup [.str c.n,.tup (c.fs.map .str)]
structure CsOk(sh:List (Str×Nat))(c:Cs):Prop where
 nm:g9 c.n=true
 few:1<=↥c.fs/\↥c.fs<=20
 fs:∀f∈c.fs,f∈sh.map (·.1)
theorem b2v(ms:List Cs):D.flats (ms.map csD)=true:=D7 λd hd=>by obtain⟨p,_,rfl⟩:=ao.mp hd;show D.flats [.str p.n,.tup (p.fs.map .str)]=true;simp only[D.flats,D.flat,C2,Bool.and_self]
theorem T7:∀{l:List D} {i j:Nat} {x:D},(u5 i l)[j]? =some x->∃d,l[j]? =some d/\x=.tup [.int ((i+j:Nat):Int),d]
 |[],i,j,x,h=>by simp[u5] at h
 |d::r,i,0,x,h=>by rw[u5] at h;simp at h;exact⟨d,rfl,h.symm⟩
 |d::r,i,j+1,x,h=>by rw[u5] at h;obtain⟨d',h1,h2⟩:=T7 (l:=r) (i:=i+1) (j:=j) (by simpa using h);refine⟨d',by simpa using h1,?_⟩;rw[h2,show i+1+j=i+(j+1) by ac_nf]
theorem P0:∀(l:List D) (i:Nat),↥(u5 i l)=↥l
 |[],_=>rfl
 |d::r,i=>by rw[u5,length_cons,P0 r,length_cons]
section
variable{ct:CT}{F:Nat->Option Fn}
theorem b3L{s:Nat}(hs:4<=↥sh)(hh:g[s]? =some (.lst (shD sh)))(e1:env[1]? =some (~~~s))(e6:env[6]? =some (N⁻¹)):
 ev ct c smE env g=.ok (.ref ↥g) (g++[.lst (((List.range (1+N%5)).map λi=>pk sh (N/(i*13+5))).map .str)]):=by
 unfold smE;have m20:v0 g ⇑N (.int 5)=.ok ⇑(N%5) g:=B8 5 ∅;have a1:(1:Int)+((N%5:Nat):Int)=((1+N%5:Nat):Int):=by ac_nf
 have l20:N%5<5:=Nat.mod_lt _ ∅;have r:=W1 (ct:=ct) (c:=c) (fr:=[6,1]) (a:=.bin .add (.i 1) (.bin .mod (.v 6) (.i 5))) (e:=(.ix (.ix (.v 2) (.bin .mod (.bin .div (.v 1) (.bin .add (.bin .mul (.v 0) (.i 13)) (.i 5))) (.bi .len (.o (.v 2))))) (.i 0))) (env:=env) (m:=1+N%5) (h:=g) (λi=>.str (pk sh (N/(i*13+5)))) (by simp![e6,op2,m20,o8,a1]) nofun (λi hi=>by
  have m1:O4 g ⇑i (.int 13)=.ok ⇑(i*13) g:=by rw[M9 ∅];congr 2
  have a5:((i*13:Nat):Int)+5=((i*13+5:Nat):Int):=by ac_nf
  obtain⟨w,ix⟩:=a8D (x:=N/(i*13+5)) hs hh;simp![e1,e6,T4,op2,m1,o8,a5,J1 (i*13+5) nofun nofun,a5n hh,B8 sh.length nofun,ix,a0S])
 rw[r,aK];rfl
variable(bQ:F 202=some p8)(cp:F 203=some o9)
include bQ cp
theorem a7Z{k s:Nat}{c:Int}(hF:F 209=some D1)(hs:Shs sh)(hh:h[s]? =some (.lst (shD sh))):∃ls:List Cs,(1<=↥ls/\↥ls<=9)/\(ls.map (·.n)).Nodup/\(∀l∈ls,CsOk sh l)/\b5 ct F (k+2) 209 [.int c,.ref s] h=.ok (.ref ↥h) (h++[.lst (ls.map csD)]):=by
 obtain⟨M,hM⟩:=B9 (ct:=ct) (k:=k) (c:=c) (j:=3) (h:=h) bQ ∅;have l1:↥(h++[Cell.lst []])=↥h+1:=by simp
 generalize hg:h++[Cell.lst []]=g0 at l1;have d4:u0 g0 ⇑M (.int 4)=.ok ⇑(M/4) g0:=J1 4 ∅ ∅;have m3:v0 g0 ⇑M (.int 3)=.ok ⇑(M%3) g0:=B8 3 ∅;have l3:M%3<3:=Nat.mod_lt _ ∅;obtain⟨m,mb,me⟩:∃m:Nat,(1<=m/\m<=9)/\(1:Int)+((M%3:Nat):Int)=(m:Int):=⟨1+M%3,by ac_nf,by ac_nf⟩;obtain⟨ns,nk,hN⟩:=Z2 (ct:=ct) (k:=k) (c:=M/4) (m:=m) (h:=g0) cp nofun;rw[i6 hF rfl];simp only[D1];rw[seq (by simp![hM];rfl)];rw[seq (by simp![v8,hg];rfl)];have gW:(g0++[Cell.lst (ns.map D.str)])[↥h]? =some (.lst []):=b6 (by rw[←hg];exact b7);have gN:(g0++[Cell.lst (ns.map D.str)])[↥h+1]? =some (.lst (ns.map .str)):=by rw[←l1];exact b7
 have pf:Pf h (g0++[Cell.lst (ns.map D.str)]):=by rw[←hg];exact((Pf.refl h).app _).app _
 rw[l1] at hN;generalize g0++[Cell.lst (ns.map D.str)]=g at gN gW pf hN;obtain⟨bI,g',e1,ls,e4,e5,e6,e7,rfl,q2,q3,q4,q5,q6⟩:=A9 (g:=[(↥h+1,.lst (ns.map .str))]) (p:=.tp (.nm 4>=>.nm 5>=>.nil)) (body:=exs ct (b5 ct F (k+1)) kB) (λj env hh=>∃ls:List Cs,∃e4 e5 e6 e7,env=[some (.int c),~~~s,M⁻¹,~~~↥h,e4,e5,e6,e7]/\Pf h hh/\hh[↥h+1]? =some (.lst (ns.map .str))/\hh[↥h]? =some (.lst (ls.map csD))/\ls.map (·.n)=ns.take j/\∀l∈ls,CsOk sh l) (λj env gg hP=>by
  obtain⟨_,_,_,_,_,_,_,h3,_⟩:=hP;simp[gOk,h3]) (u5 0 (ns.map .str)) 0 [some (.int c),~~~s,M⁻¹,~~~↥h,none,none,none,none] g (λj x env hg hx hP=>by
  obtain⟨ls,e4,e5,e6,e7,rfl,p1,p2,p3,p4,p5⟩:=hP;obtain⟨d,hd,rfl⟩:=T7 hx;have hj:j<↥ns:=by simpa using(ac.mp hd).1
  rw[ak,ai hj] at hd;obtain rfl:D.str ns[j]=d:=ay hd;rw[aC] at p4⊢;have a130:((j:Nat):Int)+130=((j+130:Nat):Int):=by ac_nf
  have jl:=nk.len;obtain⟨N,hN⟩:=B9 (ct:=ct) (k:=k) (c:=c) (j:=((j+130:Nat):Int)) (h:=hg) bQ nofun;have so:=b3L (ct:=ct) (c:=b5 ct F (k+1)) (s:=s) (N:=N) (env:=[some (.int c),~~~s,M⁻¹,~~~↥h,j⁻¹,some (.str ns[j]),N⁻¹,e7]) (g:=hg) hs.lo (p1.at hh) rfl rfl;have l20:N%5<5:=Nat.mod_lt _ ∅;have fo:∀f∈(List.range (1+N%5)).map λi=>pk sh (N/(i*13+5)),f∈sh.map (·.1):=λf hf=>by obtain⟨i,_,rfl⟩:=ao.mp hf;exact(a6q hs.lo _).1
  have fl:↥((List.range (1+N%5)).map λi=>pk sh (N/(i*13+5)))=1+N%5:=by simp
  generalize ((List.range (1+N%5)).map λi=>pk sh (N/(i*13+5)))=fs at so fo fl;have ll:↥(ls.map csD)<1000000:=by have:=congrArg List.length p4;rw[aa,aO] at this;rw[aa];ac_nf
  refine⟨_,[some (.int c),~~~s,M⁻¹,~~~↥h,j⁻¹,some (.str ns[j]),N⁻¹,~~~↥hg],(hg++[Cell.lst (fs.map .str)]).set ↥h (.lst (ls.map csD++[csD ⟨ns[j],fs⟩])),rfl,?_,ls++[⟨ns[j],fs⟩],_,_,_,_,rfl,(p1.app _).set (aj _),b9 nofun (b6 p2),?_,?_,λy hy=>?_⟩
  · show exs ct (b5 ct F (k+1)) kB [some (.int c),~~~s,M⁻¹,~~~↥h,j⁻¹,some (.str ns[j]),e6,e7] hg=_;unfold kB;rw[seq (by simp![op2,o8,a130,hN];rfl)];rw[seq (by simp![so];rfl)];simp![D3 (b6 (g:=[.lst (fs.map .str)]) p3),N7 b7,K0 (b6 (g:=[.lst (fs.map .str)]) p3) ll,csD]
  · rw[w6 (b6 p3),aq];rfl
  · rw[aq,p4,take_succ_eq_append_getElem hj];rfl
  · rcases aN.mp hy with hy|hy
    · exact p5 y hy
    · rw[aR.mp hy];exact⟨nk.ok _ (bu hj),by simp only;ac_nf,fo⟩) ⟨[],none,none,none,none,rfl,pf,gN,gW,rfl,λ_ h=>nomatch h⟩
 rw[P0,aa,aC,bh] at q5;have ln:↥ls=m:=by rw[←nk.len,←q5,aa]
 refine⟨ls,by ac_nf,by rw[q5];exact nk.nd,q6,?_⟩;rw[seq (by simp![op2,d4,m3,o8,J4,eqS,me,hN,T8,gN,e1];rfl)];simp![];exact a2G q2 q4 (aj _) (b2v _)
end
def Y3(sh:List (Str×Nat))(cs:List Cs)(it:Str):Prop:=it∈sh.map (·.1)∨∃c∈cs,it=("@":Str)++c.n
theorem a2o{l:List α}(f:α->D)(hl:1<=↥l)(x:Nat):∃y∈l,(l.map f)[x%↥l]? =some (f y):=by have lt:x%↥l<↥l:=Nat.mod_lt _ nofun;exact⟨l[x%↥l],bu lt,by rw[ak,ai lt];rfl⟩
theorem Z3(h:g9 z=true):↥z<=12:=(a3C h).2
variable{cs:List Cs}{bG:List Str}{bL:Nat}
section
variable{ct:CT}{F:Nat->Option Fn}
structure Trio(sh:List (Str×Nat))(ls:List Lt)(cs:List Cs)(h:AH)(s l c:Nat):Prop where
 s:h[s]? =some (.lst (shD sh))
 l:h[l]? =some (.lst (ls.map ltD))
 c:h[c]? =some (.lst (cs.map csD))
 s4:4<=↥sh
 l1:1<=↥ls
 c1:1<=↥cs
 lo:∀x∈ls,LtOk sh x
 co:∀x∈cs,CsOk sh x
theorem Trio.pf{s l c:Nat}(t:Trio sh ls cs h s l c)(p:Pf h g):Trio sh ls cs g s l c:=⟨p.at t.s,p.at t.l,p.at t.c,t.s4,t.l1,t.c1,t.lo,t.co⟩
theorem a9O{cf:CF}{s l c m a:Nat}{bL:D}(T:Trio sh ls cs g s l c)(hj:j<=100)(hN:N=m/(j*j*17+3))(p:g[a]? =some (.lst (bG.map .str)))(il:↥bG<=1000)(e7 e8:Option D):
 ∃it x8,Y3 sh cs it/\exs ct cf iB [m⁻¹,some bL,~~~s,~~~l,~~~c,~~~a,j⁻¹,e7,e8] g=.ok (.nx [m⁻¹,some bL,~~~s,~~~l,~~~c,~~~a,j⁻¹,N⁻¹,x8]) (g.set a (.lst (bG.map .str++[.str it]))):=by
 have jj:j*j<=10000:=Nat.mul_le_mul hj hj;have m1:O4 g ⇑j ⇑j=.ok ⇑(j*j) g:=by rw[M9 nofun];congr 2
 have m2:O4 g ⇑(j*j) (.int 17)=.ok ⇑(j*j*17) g:=by rw[M9 ∅];congr 2
 have a3:((j*j*17:Nat):Int)+3=((j*j*17+3:Nat):Int):=by ac_nf
 have dv:u0 g ⇑m ⇑(j*j*17+3)=.ok ⇑N g:=by rw[hN];exact J1 _ nofun nofun
 have m3:v0 g ⇑N (.int 3)=.ok ⇑(N%3) g:=B8 3 ∅;have d3:u0 g ⇑N (.int 3)=.ok ⇑(N/3) g:=J1 3 ∅ ∅;have d50:u0 g ⇑N (.int 50)=.ok ⇑(N/50) g:=J1 50 ∅ ∅;have il':↥(bG.map D.str)<1000000:=by rw[aa];ac_nf
 unfold iB
 by_cases h0:((N%3:Nat):Int)=0
 · have q0:J4 g ⇑(N%3) (.int 0)=.ok (.bl true) g:=by rw[h0];rfl
   obtain⟨y,hy,ey⟩:=a2o csD T.c1 (N/3);have lc:biD .len g [.ref c]=.ok ⇑↥cs g:=by rw[n9 T.c,aa]
   have ix:ixD g (.ref c) ⇑(N/3%↥cs)=.ok (csD y) g:=r8 T.c ey;have yl:=Z3 (T.co y hy).nm;refine⟨("@":Str)++y.n,e8,.inr ⟨y,hy,rfl⟩,?_⟩;rw[seq (by simp![op2,m1,m2,o8,a3,dv];rfl)];unfold iA;unfold csD at ix;simp![op2,m3,q0,D3 p,d3,lc,B8 cs.length T.c1,ix,a0S,t9 (h:=g) (x:="@") (y:=y.n) (by show 1+_<=_;ac_nf),K0 p il']
 · have q0:J4 g ⇑(N%3) (.int 0)=.ok (.bl false) g:=by simp only[J4,eqS,h0,decide_false]
   by_cases h1:((N%3:Nat):Int)=1
   · have q1:J4 g ⇑(N%3) (.int 1)=.ok (.bl true) g:=by rw[h1];rfl
     obtain⟨y,hy,ey⟩:=a2o ltD T.l1 (N/3);have lc:biD .len g [.ref l]=.ok ⇑↥ls g:=by rw[n9 T.l,aa]
     have ix:ixD g (.ref l) ⇑(N/3%↥ls)=.ok (ltD y) g:=r8 T.l ey;have yo:=T.lo y hy;obtain⟨z,hz,ez⟩:=a2o D.str yo.few.1 (N/50);have i3:ixD g (ltD y) (.int 3)=.ok (.tup (y.fs.map .str)) g:=ix_tup (i:=3) rfl;have lt:biD .len g [.tup (y.fs.map .str)]=.ok ⇑↥y.fs g:=by show R.ok (D.int (↥(y.fs.map D.str):Nat)) g=_;rw[aa]
     have iz:ixD g (.tup (y.fs.map .str)) ⇑(N/50%↥y.fs)=.ok (.str z) g:=ix_tup ez;refine⟨z,some (.tup (y.fs.map .str)),.inl (yo.fs z hz),?_⟩;rw[seq (by simp![op2,m1,m2,o8,a3,dv];rfl)];unfold iC;simp![op2,m3,q0,q1,d3,lc,B8 ls.length T.l1,ix,i3,D3 p,d50,lt,B8 y.fs.length yo.few.1,iz,K0 p il']
   · have q1:J4 g ⇑(N%3) (.int 1)=.ok (.bl false) g:=by simp only[J4,eqS,h1,decide_false]
     obtain⟨w,ix⟩:=a8D (x:=N/3) T.s4 T.s;refine⟨pk sh (N/3),e8,.inl (a6q T.s4 _).1,?_⟩;rw[seq (by simp![op2,m1,m2,o8,a3,dv];rfl)];unfold iD;simp![op2,m3,q0,q1,D3 p,d3,a5n T.s,B8 sh.length (show 0<↥sh by have:=T.s4;ac_nf),ix,a0S,K0 p il']
theorem a3J{k s l c m:Nat}(hF:F 210=some C6)(T:Trio sh ls cs h s l c)(hm:bL<=4):∃bG:List Str,↥bG=bL/\(∀i∈bG,Y3 sh cs i)/\b5 ct F (k+1) 210 [.int (m:Int),.int (bL:Int),.ref s,.ref l,.ref c] h=.ok (.tup (bG.map .str)) h:=by
 rw[i6 hF rfl];simp only[C6];rw[seq (by simp![v8];rfl)];obtain⟨bI,g',e1,bG,e6,e7,e8,rfl,q2,q3,q4,q5⟩:=A9 (g:=[]) (p:=.nm 6) (body:=exs ct (b5 ct F k) iB) (λj env g=>∃bG:List Str,∃e6 e7 e8,env=[m⁻¹,bL⁻¹,~~~s,~~~l,~~~c,~~~↥h,e6,e7,e8]/\Pf h g/\g[↥h]? =some (.lst (bG.map .str))/\↥bG=j/\∀i∈bG,Y3 sh cs i) (λ_ _ _ _=>rfl) ((List.range bL).map λi=>.int ((0:Int)+(i:Nat))) 0 [m⁻¹,bL⁻¹,~~~s,~~~l,~~~c,~~~↥h,none,none,none] (h++[.lst []]) (λj x env g hx hP=>by
  obtain⟨bG,e6,e7,e8,rfl,p1,p2,p3,p4⟩:=hP;obtain⟨hj,rfl⟩:=a0U hx;rw[aC] at p3⊢;obtain⟨it,x8,t1,t2⟩:=a9O (cf:=b5 ct F k) (m:=m) (bL:=.int (bL:Int)) (T.pf p1) (show j<=100 by ac_nf) rfl p2 nofun e7 e8;refine⟨_,_,_,rfl,t2,bG++[it],_,_,_,rfl,p1.set (aj _),?_,by rw[au,p3];rfl,λi hi=>?_⟩
  · rw[w6 p2,aq];rfl
  · rcases aN.mp hi with hi|hi
    · exact p4 i hi
    · rw[aR.mp hi];exact t1) ⟨[],none,none,none,rfl,(Pf.refl h).app _,b7,rfl,λ_ h=>nomatch h⟩
 rw[aa,aL,aC] at q4;refine⟨bG,q4,q5,?_⟩;rw[seq (by simp![W3 (h:=h++[.lst []]) (m:=bL) nofun,e1];rfl)];simp![N7 q3];exact b2m q2 (C2 _)
end
structure Ru where
 t:Str
 f:Str
 b:List Str
 c:List Str
 a:List Str
 o:List Str
noncomputable def ruD(r:Ru):D:=.tup [.str r.t,.str r.f,.tup (r.b.map .str),.tup (r.c.map .str),.tup (r.a.map .str),.tup (r.o.map .str)]
noncomputable def feD(p:Str×Bool):D:=.tup [.str p.1,.bl p.2]
structure RuOk(sh:List (Str×Nat))(cs:List Cs)(fe:List (Str×Bool))(r:Ru):Prop where
 nm:g9 r.t=true
 fe:r.f∈fe.map (·.1)
 b3:↥r.b<=3
 c4:1<=↥r.c/\↥r.c<=4
 a3:↥r.a<=3
 o3:1<=↥r.o/\↥r.o<=3
 b:∀i∈r.b,Y3 sh cs i
 c:∀i∈r.c,Y3 sh cs i
 a:∀i∈r.a,Y3 sh cs i
 o:∀i∈r.o,i∈sh.map (·.1)
theorem b2r(ms:List Ru):D.flats (ms.map ruD)=true:=D7 λd hd=>by obtain⟨p,_,rfl⟩:=ao.mp hd;show D.flats [.str p.t,.str p.f,.tup (p.b.map .str),.tup (p.c.map .str),.tup (p.a.map .str),.tup (p.o.map .str)]=true;simp only[D.flats,D.flat,C2,Bool.and_self]
noncomputable def z6:List D:=[.int 0,.int 0,.int 0,.int 1,.int 2,.int 3]
noncomputable def z7:List D:=[.int 1,.int 2,.int 1,.int 2,.int 3,.int 4,.int 1]
theorem b5Q(x:Nat):∃z:Nat,z<=3/\z6[x%6]? =z⁻¹:=by
 have:x%6=0∨x%6=1∨x%6=2∨x%6=3∨x%6=4∨x%6=5:=(by decide:∀r:Nat,r<6->r=0∨r=1∨r=2∨r=3∨r=4∨r=5) (x%6) (Nat.mod_lt _ ∅);rcases this with e|e|e|e|e|e<;>rw[e]
 · exact⟨0,by decide,rfl⟩
 · exact⟨0,by decide,rfl⟩
 · exact⟨0,by decide,rfl⟩
 · exact⟨1,by decide,rfl⟩
 · exact⟨2,by decide,rfl⟩
 · exact⟨3,by decide,rfl⟩
theorem b8T(x:Nat):∃z:Nat,(1<=z/\z<=4)/\z7[x%7]? =z⁻¹:=by
 have:x%7=0∨x%7=1∨x%7=2∨x%7=3∨x%7=4∨x%7=5∨x%7=6:=(by decide:∀r:Nat,r<7->r=0∨r=1∨r=2∨r=3∨r=4∨r=5∨r=6) (x%7) (Nat.mod_lt _ ∅);rcases this with e|e|e|e|e|e|e<;>rw[e]
 · exact⟨1,by decide,rfl⟩
 · exact⟨2,by decide,rfl⟩
 · exact⟨1,by decide,rfl⟩
 · exact⟨2,by decide,rfl⟩
 · exact⟨3,by decide,rfl⟩
 · exact⟨4,by decide,rfl⟩
 · exact⟨1,by decide,rfl⟩
noncomputable def z5(b:Bool):List D:=[.int 1,.int 1,.int 1,.int 2,.int (2+(if b then 1 else 0))]
theorem b8U(b:Bool)(x:Nat):∃z:Nat,(1<=z/\z<=3)/\(z5 b)[x%5]? =z⁻¹:=by
 have:x%5=0∨x%5=1∨x%5=2∨x%5=3∨x%5=4:=(by decide:∀r:Nat,r<5->r=0∨r=1∨r=2∨r=3∨r=4) (x%5) (Nat.mod_lt _ ∅);rcases this with e|e|e|e|e<;>rw[e]
 · exact⟨1,by decide,rfl⟩
 · exact⟨1,by decide,rfl⟩
 · exact⟨1,by decide,rfl⟩
 · exact⟨2,by decide,rfl⟩
 · cases b
   · exact⟨2,by decide,rfl⟩
   · exact⟨3,by decide,rfl⟩
section
variable{ct:CT}{F:Nat->Option Fn}
theorem b3E{s m:Nat}(hs:4<=↥sh)(hh:g[s]? =some (.lst (shD sh)))(e2:env[2]? =some (~~~s))(e9:env[9]? =some (N⁻¹))(e15:env[15]? =some (m⁻¹))(hm:m<=1000):
 ev ct c tdE env g=.ok (.ref ↥g) (g++[.lst (((List.range m).map λi=>pk sh (N/(i*7+3))).map .str)]):=by
 unfold tdE;have r:=W1 (ct:=ct) (c:=c) (fr:=[9,2]) (a:=.v 15) (e:=(.ix (.ix (.v 2) (.bin .mod (.bin .div (.v 1) (.bin .add (.bin .mul (.v 0) (.i 7)) (.i 3))) (.bi .len (.o (.v 2))))) (.i 0))) (env:=env) (m:=m) (h:=g) (λi=>.str (pk sh (N/(i*7+3)))) (by simp![e15]) nofun (λi hi=>by
  have m1:O4 g ⇑i (.int 7)=.ok ⇑(i*7) g:=by rw[M9 ∅];congr 2
  have a5:((i*7:Nat):Int)+3=((i*7+3:Nat):Int):=by ac_nf
  obtain⟨w,ix⟩:=a8D (x:=N/(i*7+3)) hs hh;simp![e2,e9,T4,op2,m1,o8,a5,J1 (i*7+3) nofun nofun,a5n hh,B8 sh.length nofun,ix,a0S])
 rw[r,aK];rfl
theorem b0A(e9:env[9]? =some (N⁻¹)):∃z0 z1 z2 n t,z0<=3/\(1<=z1/\z1<=4)/\z2<=3/\ev ct c szE env g=.ok (.ref n) (g++t)/\(g++t)[n]? =some (.lst [.int ((z0:Nat):Int),.int ((z1:Nat):Int),.int ((z2:Nat):Int)]):=by
 obtain⟨z0,a0,b0⟩:=b5Q N;obtain⟨z1,a1,b1⟩:=b8T (N/6);obtain⟨z2,a2,b2⟩:=b5Q (N/42);have m6:∀(a:Nat) h,v0 h ⇑a (.int 6)=.ok ⇑(a%6) h:=λa h=>B8 6 ∅;have m7:∀(a:Nat) h,v0 h ⇑a (.int 7)=.ok ⇑(a%7) h:=λa h=>B8 7 ∅;have d6:∀h,u0 h ⇑N (.int 6)=.ok ⇑(N/6) h:=λh=>J1 6 ∅ ∅;have d42:∀h,u0 h ⇑N (.int 42)=.ok ⇑(N/42) h:=λh=>J1 42 ∅ ∅;have l6:∀(env:u9) (h:AH),ev ct c e6L env h=.ok (.ref ↥h) (h++[.lst z6]):=λenv h=>by unfold e6L z6;simp![v8]
 have l7:∀(env:u9) (h:AH),ev ct c e7L env h=.ok (.ref ↥h) (h++[.lst z7]):=λenv h=>by unfold e7L z7;simp![v8];rfl
 have x0:∀h:AH,ixD (h++[.lst z6]) (.ref ↥h) ⇑(N%6)=.ok ⇑z0 (h++[.lst z6]):=λh=>r8 b7 b0;have x1:∀h:AH,ixD (h++[.lst z7]) (.ref ↥h) ⇑(N/6%7)=.ok ⇑z1 (h++[.lst z7]):=λh=>r8 b7 b1;have x2:∀h:AH,ixD (h++[.lst z6]) (.ref ↥h) ⇑(N/42%6)=.ok ⇑z2 (h++[.lst z6]):=λh=>r8 b7 b2;refine⟨z0,z1,z2,↥(g++[Cell.lst z6]++[Cell.lst z7]++[Cell.lst z6]),[.lst z6,.lst z7,.lst z6,.lst [.int ((z0:Nat):Int),.int ((z1:Nat):Int),.int ((z2:Nat):Int)]],a0,a1,a2,?_,?_⟩
 · unfold szE;simp![l6,l7,e9,op2,m6,m7,d6,d42,x0,x1,x2,v8];simp
 · rw[show g++[Cell.lst z6,.lst z7,.lst z6,.lst [.int ((z0:Nat):Int),.int ((z1:Nat):Int),.int ((z2:Nat):Int)]]=(g++[Cell.lst z6]++[Cell.lst z7]++[Cell.lst z6])++[.lst [.int ((z0:Nat):Int),.int ((z1:Nat):Int),.int ((z2:Nat):Int)]] by simp];exact b7
end
variable{cl:Nat}{fe:List (Str×Bool)}
section
variable{ct:CT}{F:Nat->Option Fn}
theorem c0L(e7:env[7]? =some (j⁻¹)):ev ct c e5L env g=.ok (.ref ↥g) (g++[.lst (z5 (decide ((j:Int)=0)))]):=by unfold e5L z5;have ib:∀b:Bool,biD .int g [.bl b]=.ok (.int (if b=true then 1 else 0)) g:=λb=>rfl;simp![e7,op2,J4,eqS,ib,o8,v8]
variable(bQ:F 202=some p8)(dE:F 210=some C6)
include bQ dE
theorem a9u{k s l f a:Nat}{c:Int}{bL:D}{df:Str}{rs:List Ru}(T:Trio sh ls cs g s l cl)(hf:g[f]? =some (.lst (fe.map feD)))(f1:1<=↥fe)(ht:g9 df=true)(hj:j<=100)(p:g[a]? =some (.lst (rs.map ruD)))(rl:↥rs<=1000)(e9 e10 e11 e12 e13 e14 e15 e16:Option D):
 ∃r x9 x10 x11 x12 x13 x14 x15 x16 t,RuOk sh cs fe r/\r.t=df/\exs ct (b5 ct F (k+1)) rB [some (.int c),some bL,~~~s,~~~l,~~~cl,~~~f,~~~a,j⁻¹,some (.str df),e9,e10,e11,e12,e13,e14,e15,e16] g
  =.ok (.nx [some (.int c),some bL,~~~s,~~~l,~~~cl,~~~f,~~~a,j⁻¹,some (.str df),x9,x10,x11,x12,x13,x14,x15,x16]) ((g++t).set a (.lst ((rs++[r]).map ruD))):=by
 have a160:((j:Nat):Int)+160=((j+160:Nat):Int):=by ac_nf
 have a190:((j:Nat):Int)+190=((j+190:Nat):Int):=by ac_nf
 obtain⟨N,hN⟩:=B9 (ct:=ct) (k:=k) (c:=c) (j:=((j+160:Nat):Int)) (h:=g) bQ nofun;obtain⟨M,hM⟩:=B9 (ct:=ct) (k:=k) (c:=c) (j:=((j+190:Nat):Int)) (h:=g) bQ nofun;obtain⟨z0,z1,z2,n,t1,b0,b1,b2,sz,sx⟩:=b0A (ct:=ct) (c:=b5 ct F (k+1)) (N:=N) (env:=[some (.int c),some bL,~~~s,~~~l,~~~cl,~~~f,~~~a,j⁻¹,some (.str df),N⁻¹,M⁻¹,e11,e12,e13,e14,e15,e16]) (g:=g) rfl;have T1:Trio sh ls cs (g++t1) s l cl:=T.pf ((Pf.refl g).app _);have d11:u0 (g++t1) ⇑M (.int 11)=.ok ⇑(M/11) (g++t1):=J1 11 ∅ ∅;have d101:u0 (g++t1) ⇑M (.int 101)=.ok ⇑(M/101) (g++t1):=J1 101 ∅ ∅;have m5:O4 (g++t1) (.int 5) ⇑j=.ok ⇑(5*j) (g++t1):=by rw[M9 nofun];congr 2
 have ad1:((M/11:Nat):Int)+((5*j:Nat):Int)=((M/11+5*j:Nat):Int):=by ac_nf
 have ad2:((M/101:Nat):Int)+3=((M/101+3:Nat):Int):=by ac_nf
 have i0:ixD (g++t1) (.ref n) (.int 0)=.ok ⇑z0 (g++t1):=v5 0 0 rfl sx rfl;have i1:ixD (g++t1) (.ref n) (.int 1)=.ok ⇑z1 (g++t1):=v5 1 1 rfl sx rfl;have i2:ixD (g++t1) (.ref n) (.int 2)=.ok ⇑z2 (g++t1):=v5 2 2 rfl sx rfl;obtain⟨ib,q1,q2,q3⟩:=a3J (ct:=ct) (k:=k) (m:=M) (bL:=z0) dE T1 nofun;obtain⟨ic,u1,u2,u3⟩:=a3J (ct:=ct) (k:=k) (m:=M/11+5*j) (bL:=z1) dE T1 nofun;obtain⟨ia,v1,v2,v3⟩:=a3J (ct:=ct) (k:=k) (m:=M/101+3) (bL:=z2) dE T1 nofun;obtain⟨z,zb,zx⟩:=b8U (decide ((j:Int)=0)) (N/252);have G1:Pf g (g++t1):=(Pf.refl g).app _;have p1:=b6 (g:=t1) p;have hf1:=b6 (g:=t1) hf;have e5:=c0L (ct:=ct) (c:=b5 ct F (k+1)) (j:=j) (env:=[some (.int c),some bL,~~~s,~~~l,~~~cl,~~~f,~~~a,j⁻¹,some (.str df),N⁻¹,M⁻¹,~~~n,some (.tup (ib.map .str)),some (.tup (ic.map .str)),some (.tup (ia.map .str)),e15,e16]) (g:=g++t1) rfl;have d252:∀h,u0 h ⇑N (.int 252)=.ok ⇑(N/252) h:=λh=>J1 252 ∅ ∅;have m5':∀(a:Nat) h,v0 h ⇑a (.int 5)=.ok ⇑(a%5) h:=λa h=>B8 5 ∅;have ez:ixD (g++t1++[.lst (z5 (decide ((j:Int)=0)))]) (.ref ↥(g++t1)) ⇑(N/252%5)=.ok ⇑z (g++t1++[.lst (z5 (decide ((j:Int)=0)))]):=r8 b7 zx;have td:=b3E (ct:=ct) (c:=b5 ct F (k+1)) (s:=s) (N:=N) (m:=z) (env:=[some (.int c),some bL,~~~s,~~~l,~~~cl,~~~f,~~~a,j⁻¹,some (.str df),N⁻¹,M⁻¹,~~~n,some (.tup (ib.map .str)),some (.tup (ic.map .str)),some (.tup (ia.map .str)),z⁻¹,e16]) (g:=g++t1++[.lst (z5 (decide ((j:Int)=0)))]) T.s4 (b6 T1.s) rfl rfl rfl nofun;have fo:∀x∈(List.range z).map λi=>pk sh (N/(i*7+3)),x∈sh.map (·.1):=λx hx=>by obtain⟨i,_,rfl⟩:=ao.mp hx;exact(a6q T.s4 _).1
 have fl:↥((List.range z).map λi=>pk sh (N/(i*7+3)))=z:=by simp
 generalize ((List.range z).map λi=>pk sh (N/(i*7+3)))=fs at td fo fl;obtain⟨y,hy,ey⟩:=a2o feD f1 (N/1260);have d1260:∀h,u0 h ⇑N (.int 1260)=.ok ⇑(N/1260) h:=λh=>J1 1260 ∅ ∅;have hf2:=b6 (g:=[.lst (fs.map .str)]) (b6 (g:=[.lst (z5 (decide ((j:Int)=0)))]) hf1);have p2:=b6 (g:=[.lst (fs.map .str)]) (b6 (g:=[.lst (z5 (decide ((j:Int)=0)))]) p1);have lf:biD .len (g++t1++[.lst (z5 (decide ((j:Int)=0)))]++[.lst (fs.map .str)]) [.ref f]=.ok ⇑↥fe (g++t1++[.lst (z5 (decide ((j:Int)=0)))]++[.lst (fs.map .str)]):=by rw[n9 hf2,aa]
 have ix:ixD (g++t1++[.lst (z5 (decide ((j:Int)=0)))]++[.lst (fs.map .str)]) (.ref f) ⇑(N/1260%↥fe)=.ok (.tup [.str y.1,.bl y.2]) (g++t1++[.lst (z5 (decide ((j:Int)=0)))]++[.lst (fs.map .str)]):=r8 hf2 ey;have rl':↥(rs.map ruD)<1000000:=by rw[aa];ac_nf
 refine⟨⟨df,y.1,ib,ic,ia,fs⟩,N⁻¹,M⁻¹,~~~n,some (.tup (ib.map .str)),some (.tup (ic.map .str)),some (.tup (ia.map .str)),z⁻¹,some (.tup (fs.map .str)),t1++[.lst (z5 (decide ((j:Int)=0)))]++[.lst (fs.map .str)],⟨ht,List.mem_map_of_mem hy,by simp only;ac_nf,by simp only;ac_nf,by simp only;ac_nf,by simp only;ac_nf,q2,u2,v2,fo⟩,rfl,?_⟩;unfold rB;rw[seq (by simp![op2,o8,a160,hN];rfl)];rw[seq (by simp![op2,o8,a190,hM];rfl)];rw[seq (by simp![sz];rfl)];unfold rB3;rw[seq (by simp![i0,q3];rfl)];unfold rB4;rw[seq (by simp![op2,d11,m5,o8,ad1,i1,u3];rfl)];unfold rB5;rw[seq (by simp![op2,d101,o8,ad2,i2,v3];rfl)];unfold rB6;rw[seq (by simp![e5,op2,d252,m5',ez];rfl)];rw[seq (by simp![td,N7 b7];rfl)];unfold rB7;simp![D3 p2,op2,d1260,lf,B8 fe.length f1,ix,a0S,K0 p2 rl',aq];rw[show g++(t1++[Cell.lst (z5 (decide ((j:Int)=0)))]++[Cell.lst (fs.map .str)])=g++t1++[.lst (z5 (decide ((j:Int)=0)))]++[.lst (fs.map .str)] by simp];rfl
variable(cp:F 203=some o9)
include cp
theorem b0I{k s l f m:Nat}{c:Int}(hF:F 211=some B7)(T:Trio sh ls cs h s l cl)(hf:h[f]? =some (.lst (fe.map feD)))(f1:1<=↥fe)(hm:m<=26):
 ∃rs:List Ru,↥rs=m/\(rs.map (·.t)).Nodup/\(∀r∈rs,RuOk sh cs fe r)/\b5 ct F (k+2) 211 [.int c,.int (m:Int),.ref s,.ref l,.ref cl,.ref f] h=.ok (.ref ↥h) (h++[.lst (rs.map ruD)]):=by
 have l1:↥(h++[Cell.lst []])=↥h+1:=by simp
 have gW0:(h++[Cell.lst []])[↥h]? =some (.lst []):=b7;have pf0:Pf h (h++[Cell.lst []]):=(Pf.refl h).app _;have st:exs ct (b5 ct F (k+1)) B7.body [some (.int c),m⁻¹,~~~s,~~~l,~~~cl,~~~f,none,none,none,none,none,none,none,none,none,none,none] h=exs ct (b5 ct F (k+1)) (.for (.tp (.nm 7>=>.nm 8>=>.nil)) (.enum (.call 203 (.call 202 (.v 0>=>.o (.i 4))>=>.o (.v 1)))) rB>=>.o (.ret (.v 6))) [some (.int c),m⁻¹,~~~s,~~~l,~~~cl,~~~f,~~~↥h,none,none,none,none,none,none,none,none,none,none] (h++[.lst []]):=by simp only[B7];exact seq (by simp![v8])
 rw[i6 hF rfl];show∃rs:List Ru,_/\_/\_/\gcR 2 h (a4e (exs ct (b5 ct F (k+1)) B7.body [some (.int c),m⁻¹,~~~s,~~~l,~~~cl,~~~f,none,none,none,none,none,none,none,none,none,none,none] h))=_;rw[st];clear st;generalize h++[Cell.lst []]=g0 at l1 gW0 pf0;obtain⟨M,hM⟩:=B9 (ct:=ct) (k:=k) (c:=c) (j:=4) (h:=g0) bQ ∅;obtain⟨ns,nk,hN⟩:=Z2 (ct:=ct) (k:=k) (c:=M) (m:=m) (h:=g0) cp hm;have gW:(g0++[Cell.lst (ns.map D.str)])[↥h]? =some (.lst []):=b6 gW0;have gN:(g0++[Cell.lst (ns.map D.str)])[↥h+1]? =some (.lst (ns.map .str)):=by rw[←l1];exact b7
 have pf:Pf h (g0++[Cell.lst (ns.map D.str)]):=pf0.app _;rw[l1] at hN;generalize g0++[Cell.lst (ns.map D.str)]=g at gN gW pf hN;have nl:=nk.len;obtain⟨bI,g',e1,rs,e7,e8,e9,e10,e11,e12,e13,e14,e15,e16,rfl,q2,q3,q4,q5,q6⟩:=A9 (g:=[(↥h+1,.lst (ns.map .str))]) (p:=.tp (.nm 7>=>.nm 8>=>.nil)) (body:=exs ct (b5 ct F (k+1)) rB) (λj env hh=>∃rs:List Ru,∃e7 e8 e9 e10 e11 e12 e13 e14 e15 e16,env=[some (.int c),m⁻¹,~~~s,~~~l,~~~cl,~~~f,~~~↥h,e7,e8,e9,e10,e11,e12,e13,e14,e15,e16]/\Pf h hh/\hh[↥h+1]? =some (.lst (ns.map .str))/\hh[↥h]? =some (.lst (rs.map ruD))/\rs.map (·.t)=ns.take j/\∀r∈rs,RuOk sh cs fe r) (λj env gg hP=>by
  obtain⟨_,_,_,_,_,_,_,_,_,_,_,_,_,h3,_⟩:=hP;simp[gOk,h3]) (u5 0 (ns.map .str)) 0 [some (.int c),m⁻¹,~~~s,~~~l,~~~cl,~~~f,~~~↥h,none,none,none,none,none,none,none,none,none,none] g (λj x env hg hx hP=>by
  obtain⟨rs,e7,e8,e9,e10,e11,e12,e13,e14,e15,e16,rfl,p1,p2,p3,p4,p5⟩:=hP;obtain⟨d,hd,rfl⟩:=T7 hx;have hj:j<↥ns:=by simpa using(ac.mp hd).1
  rw[ak,ai hj] at hd;obtain rfl:D.str ns[j]=d:=ay hd;rw[aC] at p4⊢;have ll:↥rs<=1000:=by have:=congrArg List.length p4;rw[aa,aO] at this;ac_nf
  obtain⟨r,x9,x10,x11,x12,x13,x14,x15,x16,t,t1,t2,t3⟩:=a9u (ct:=ct) (k:=k) (c:=c) (bL:=.int (m:Int)) bQ dE (T.pf p1) (p1.at hf) f1 (nk.ok _ (bu hj)) (show j<=100 by ac_nf) p3 ll e9 e10 e11 e12 e13 e14 e15 e16;refine⟨_,_,_,rfl,t3,rs++[r],_,_,_,_,_,_,_,_,_,_,rfl,(p1.app _).set (aj _),b9 nofun (b6 p2),w6 (b6 p3),?_,λy hy=>?_⟩
  · rw[aq,p4,take_succ_eq_append_getElem hj,←t2];rfl
  · rcases aN.mp hy with hy|hy
    · exact p5 y hy
    · rw[aR.mp hy];exact t1) ⟨[],none,none,none,none,none,none,none,none,none,none,rfl,pf,gN,gW,rfl,λ_ h=>nomatch h⟩
 rw[P0,aa,aC,bh] at q5;have ln:↥rs=m:=by rw[←nk.len,←q5,aa]
 refine⟨rs,ln,by rw[q5];exact nk.nd,q6,?_⟩;rw[seq (by simp![hM,hN,T8,gN,e1];rfl)];simp![];exact a2G q2 q4 (aj _) (b2r _)
end
structure HL where
 sh:List (Str×Nat)
 mr:List Mk
 pt:List Pt
 ls:List Lt
 gp:List Str
 cs:List Cs
 fe:List (Str×Bool)
 ru:List Ru
structure HLok(H:HL):Prop where
 sh:Shs H.sh
 mr:(H.mr.map (·.n)).Sublist (H.sh.map (·.1))
 mko:∀m∈H.mr,a0I m.s/\a0u m.a/\a0u m.b
 pt:(H.pt.map ptK).Nodup
 ptl:↥H.pt<=100
 pto:∀p∈H.pt,p.n∈H.sh.map (·.1)/\a0I p.s/\a0u p.a
 ls:1<=↥H.ls/\↥H.ls<=6
 lsn:(H.ls.map (·.n)).Nodup
 lso:∀l∈H.ls,LtOk H.sh l
 gp:H.gp.Sublist (H.ls.map (·.n))
 cs:1<=↥H.cs/\↥H.cs<=9
 csn:(H.cs.map (·.n)).Nodup
 cso:∀c∈H.cs,CsOk H.sh c
 fe:1<=↥H.fe/\↥H.fe<=3
 fen:Nms (H.fe.map (·.1)) ↥H.fe
 rul:↥H.ru<=26
 run:(H.ru.map (·.t)).Nodup
 ruo:∀r∈H.ru,RuOk H.sh H.cs H.fe r
structure HAt(H:HL)(g:AH)(a b c d e f i j:Nat):Prop where
 sh:g[a]? =some (.lst (shD H.sh))
 mr:g[b]? =some (.lst (H.mr.map mkD))
 pt:g[c]? =some (.lst (H.pt.map ptD))
 ls:g[d]? =some (.lst (H.ls.map ltD))
 gp:g[e]? =some (.lst (H.gp.map .str))
 cs:g[f]? =some (.lst (H.cs.map csD))
 fe:g[i]? =some (.lst (H.fe.map feD))
 ru:g[j]? =some (.lst (H.ru.map ruD))
def feF(M:Nat)(x:D):D:=match x with
 |.tup [.int j,n]=>(match n with
  |.str n=>feD (n,decide ((0:Int)<((M/(j.toNat+5)%4:Nat):Int)))
  |_=>.non)
 |_=>.non
theorem b2A(M:Nat):∀(ns:List Str) (i:Nat),∃fe:List (Str×Bool),(u5 i (ns.map .str)).map (feF M)=fe.map feD/\fe.map (·.1)=ns
 |[],_=>⟨[],rfl,rfl⟩
 |n::ns,i=>by obtain⟨fe,h1,h2⟩:=b2A M ns (i+1);refine⟨(n,decide ((0:Int)<((M/(((i:Nat):Int).toNat+5)%4:Nat):Int)))::fe,?_,by rw[map_cons,h2]⟩;rw[map_cons,u5,map_cons,h1];rfl
noncomputable def gpB(M:Nat)(x:D):Bool:=match x with
 |.tup [.int j,_]=>decide (((M/(7*j.toNat+9)%4:Nat):Int)=0)
 |_=>false
noncomputable def gpF(x:D):D:=match x with
 |.tup [_,.tup (n::_)]=>n
 |_=>.non
theorem b2c(M:Nat):∀(ls:List Lt) (i:Nat),∃gp:List Str,((u5 i (ls.map ltD)).filter (gpB M)).map gpF=gp.map .str/\gp.Sublist (ls.map (·.n))
 |[],_=>⟨[],rfl,.slnil⟩
 | l::ls,i=>by
  obtain⟨gp,h1,h2⟩:=b2c M ls (i+1);rw[map_cons,u5];cases hb:gpB M (.tup [.int (i:Nat),ltD l]) with
  |true=>
   refine⟨l.n::gp,?_,by rw[map_cons];exact h2.cons_cons _⟩;rw[List.filter_cons_of_pos hb,map_cons,h1];rfl
  |false=>
   refine⟨gp,?_,by rw[map_cons];exact h2.cons _⟩;rw[List.filter_cons_of_neg (by rw[hb];exact bt),h1]
section
variable{ct:CT}{F:Nat->Option Fn}
theorem b5d{d:Nat}(h4:env[4]? =some (~~~d))(h6:env[6]? =some (M⁻¹))(hd:g[d]? =some (.lst (ls.map ltD)))(hl:↥ls<=1000):∃gp:List Str,gp.Sublist (ls.map (·.n))/\ev ct c gpE env g=.ok (.ref ↥g) (g++[.lst (gp.map .str)]):=by
 obtain⟨gp,g1,g2⟩:=b2c M ls 0;refine⟨gp,g2,?_⟩;unfold gpE;rw[J0 (l:=u5 0 (ls.map ltD)) (g:=[(d,.lst (ls.map ltD))]) (h1:=g) (by simp![h4,T8,hd]) (by simp[gOk,hd]) (gpB M) gpF (λx=>match x with|.tup [a,b]=>[some a,some b,M⁻¹]|_=>[]) (λx hx=>by
  obtain⟨j,hj⟩:=List.mem_iff_getElem?.mp hx;obtain⟨y,hy,rfl⟩:=T7 hj;have hj':j<↥ls:=by simpa using(ac.mp hy).1
  rw[ak,ai hj'] at hy;obtain rfl:ltD ls[j]=y:=ay hy;rw[aC];have m7:O4 g (.int 7) ⇑j=.ok ⇑(7*j) g:=by rw[M9 nofun];congr 2
  have a9:((7*j:Nat):Int)+9=((7*j+9:Nat):Int):=by ac_nf
  have m4:∀a:Nat,v0 g ⇑a (.int 4)=.ok ⇑(a%4) g:=λa=>B8 4 ∅;refine⟨by simp only[F7,N4,F0,map_cons,map_nil,h6,T4];rfl,?_,λ_=>?_⟩
  · simp![op2,m7,o8,a9,J1 (7*j+9) nofun nofun,m4,J4,eqS,gpB,Int.toNat_natCast]
  · unfold ltD;simp![a0S,gpF]) (by rw[P0,aa];show _<=16777216;ac_nf),g1]
theorem b2z{k:Nat}(cp:F 203=some o9)(h6:env[6]? =some (M⁻¹)):∃(fe:List (Str×Bool)) (t:Cell),(1<=↥fe/\↥fe<=3)/\Nms (fe.map (·.1)) ↥fe/\ev ct (b5 ct F (k+1)) feE env g=.ok (.ref (↥g+1)) (g++[t]++[.lst (fe.map feD)]):=by
 have d3:u0 g ⇑M (.int 3)=.ok ⇑(M/3) g:=J1 3 ∅ ∅;have m3:v0 g ⇑M (.int 3)=.ok ⇑(M%3) g:=B8 3 ∅;have a1:(1:Int)+((M%3:Nat):Int)=((1+M%3:Nat):Int):=by ac_nf
 have l3:M%3<3:=Nat.mod_lt _ ∅;obtain⟨ns,nk,hN⟩:=Z2 (ct:=ct) (k:=k) (c:=M/3) (m:=1+M%3) (h:=g) cp nofun;obtain⟨fe,h1,h2⟩:=b2A M ns 0;have fl:↥fe=1+M%3:=by rw[←nk.len,←h2,aa]
 refine⟨fe,.lst (ns.map .str),by ac_nf,by rw[h2,fl];exact nk,?_⟩;have lg:↥(g++[Cell.lst (ns.map D.str)])=↥g+1:=by simp
 unfold feE;rw[o6 (l:=u5 0 (ns.map .str)) (g:=[(↥g,.lst (ns.map .str))]) (h1:=g++[.lst (ns.map .str)]) (by simp![h6,op2,d3,m3,o8,a1,hN,T8,b7]) (by simp[gOk]) (feF M) (λx=>match x with|.tup [a,b]=>[some a,some b,M⁻¹]|_=>[]) (λx hx=>by
  obtain⟨j,hj⟩:=List.mem_iff_getElem?.mp hx;obtain⟨y,hy,rfl⟩:=T7 hj;have hj':j<↥ns:=by simpa using(ac.mp hy).1
  rw[ak,ai hj'] at hy;obtain rfl:D.str ns[j]=y:=ay hy;rw[aC];have jl:=nk.len;have a5:((j:Nat):Int)+5=((j+5:Nat):Int):=by ac_nf
  have m4:∀(a:Nat) h,v0 h ⇑a (.int 4)=.ok ⇑(a%4) h:=λa h=>B8 4 ∅;refine⟨by simp only[F7,N4,F0,map_cons,map_nil,h6,T4];rfl,?_⟩;simp![op2,o8,a5,J1 (j+5) nofun nofun,m4,G5,feF,feD,Int.toNat_natCast]) (by rw[P0,aa,nk.len];show _<=16777216;ac_nf),h1,lg]
variable(dP:F 201=some I0)(bQ:F 202=some p8)(cp:F 203=some o9)(f204:F 204=some D8)(da:F 205=some C1)(f206:F 206=some F5)(f207:F 207=some E1)(f208:F 208=some D0)(f209:F 209=some D1)(dE:F 210=some C6)(f211:F 211=some B7)
include dP bQ cp f204 da f206 f207 f208 f209 dE f211
theorem b4X{k m:Nat}(hF:F 212=some L9)(hr:h[n]? =some (.rol (ns.map .int)))(hm:m<=26):
 ∃H g a b c d e f i j,HLok H/\↥H.ru=m/\Pf h g/\HAt H g a b c d e f i j/\b5 ct F (k+3) 212 [.ref n,.int (m:Int)] h=.ok (.tup [.ref a,.ref b,.ref c,.ref d,.ref e,.ref f,.ref i,.ref j]) g:=by
 obtain⟨c0,hc0⟩:=a0F (ct:=ct) (k:=k+1) (j:=0) dP hr;obtain⟨sh,s1,s2⟩:=a9q (ct:=ct) (k:=k) (c:=c0) (h:=h) bQ cp f204;have P1:Pf h (h++[.lst (shD sh)]):=(Pf.refl h).app _;have A1:(h++[Cell.lst (shD sh)])[↥h]? =some (.lst (shD sh)):=b7;have st1:exs ct (b5 ct F (k+2)) (.set 2 (.call 201 (.v 0>=>.o (.i 0)))>=>.set 3 (.call 204 (.o (.v 2)))>=>hB2) [~~~n,m⁻¹,none,none,none,none,none,none,none,none,none,none] h=exs ct (b5 ct F (k+2)) hB2 [~~~n,m⁻¹,some (.int c0),~~~↥h,none,none,none,none,none,none,none,none] (h++[.lst (shD sh)]):=by rw[seq (by simp![show b5 ct F (k+2) 201 [.ref n,.int 0] h=.ok (.int c0) h from hc0];rfl)];exact seq (by simp![s2])
 generalize h++[Cell.lst (shD sh)]=g1 at P1 A1 st1;obtain⟨c1,hc1⟩:=a0F (ct:=ct) (k:=k+1) (j:=1) dP (P1.at hr);obtain⟨ls,l1,l2,l3,l4⟩:=a7E (ct:=ct) (k:=k) (c:=c1) (h:=g1) bQ cp f208 s1 A1;have P2:Pf h (g1++[.lst (ls.map ltD)]):=P1.app _;have A2:=b6 (g:=[.lst (ls.map ltD)]) A1;have B2:(g1++[Cell.lst (ls.map ltD)])[↥g1]? =some (.lst (ls.map ltD)):=b7;generalize hd:↥g1=d at l4 B2;generalize hg2:g1++[Cell.lst (ls.map ltD)]=g2 at P2 A2 B2 l4;obtain⟨c2,hc2⟩:=a0F (ct:=ct) (k:=k+1) (j:=2) dP (P2.at hr);obtain⟨cs,k1,k2,k3,k4⟩:=a7Z (ct:=ct) (k:=k) (c:=c2) (h:=g2) bQ cp f209 s1 A2;have P3:Pf h (g2++[.lst (cs.map csD)]):=P2.app _;have A3:=b6 (g:=[.lst (cs.map csD)]) A2;have B3:=b6 (g:=[.lst (cs.map csD)]) B2;have C3:(g2++[Cell.lst (cs.map csD)])[↥g2]? =some (.lst (cs.map csD)):=b7;generalize hf:↥g2=f at k4 C3;generalize hg3:g2++[Cell.lst (cs.map csD)]=g3 at P3 A3 B3 C3 k4;obtain⟨c2',hc2'⟩:=a0F (ct:=ct) (k:=k+1) (j:=2) dP (P3.at hr);obtain⟨M,hM⟩:=B9 (ct:=ct) (k:=k+1) (c:=c2') (j:=5) (h:=g3) bQ ∅;obtain⟨fe,t,f1,f2,f3⟩:=b2z (ct:=ct) (k:=k+1) (M:=M) (env:=[~~~n,m⁻¹,some (.int c0),~~~↥h,~~~d,~~~f,M⁻¹,none,none,none,none,none]) (g:=g3) cp rfl;have lg:↥(g3++[t])=↥g3+1:=by simp
 have P4:Pf h (g3++[t]++[.lst (fe.map feD)]):=(P3.app _).app _;have A4:=b6 (g:=[.lst (fe.map feD)]) (b6 (g:=[t]) A3);have B4:=b6 (g:=[.lst (fe.map feD)]) (b6 (g:=[t]) B3);have C4:=b6 (g:=[.lst (fe.map feD)]) (b6 (g:=[t]) C3);have D4:(g3++[t]++[Cell.lst (fe.map feD)])[↥g3+1]? =some (.lst (fe.map feD)):=by rw[←lg];exact b7
 generalize hi:↥g3+1=i at f3 D4;generalize hg4:g3++[t]++[Cell.lst (fe.map feD)]=g4 at P4 A4 B4 C4 D4 f3;obtain⟨c3,hc3⟩:=a0F (ct:=ct) (k:=k+1) (j:=3) dP (P4.at hr);obtain⟨rs,r1,r2,r3,r4⟩:=b0I (ct:=ct) (k:=k) (c:=c3) (m:=m) (h:=g4) bQ dE cp f211 (T:=⟨A4,B4,C4,s1.lo,l1.1,k1.1,l3,k3⟩) D4 f1.1 hm;have P5:Pf h (g4++[.lst (rs.map ruD)]):=P4.app _;have A5:=b6 (g:=[.lst (rs.map ruD)]) A4;have B5:=b6 (g:=[.lst (rs.map ruD)]) B4;have C5:=b6 (g:=[.lst (rs.map ruD)]) C4;have D5:=b6 (g:=[.lst (rs.map ruD)]) D4;have E5:(g4++[Cell.lst (rs.map ruD)])[↥g4]? =some (.lst (rs.map ruD)):=b7;generalize hj:↥g4=j at r4 E5;generalize hg5:g4++[Cell.lst (rs.map ruD)]=g5 at P5 A5 B5 C5 D5 E5 r4;obtain⟨gp,y1,y2⟩:=b5d (ct:=ct) (c:=b5 ct F (k+2)) (M:=M) (env:=[~~~n,m⁻¹,some (.int c0),~~~↥h,~~~d,~~~f,M⁻¹,~~~i,~~~j,none,none,none]) (g:=g5) rfl rfl B5 nofun;have P6:Pf h (g5++[.lst (gp.map .str)]):=P5.app _;have A6:=b6 (g:=[.lst (gp.map .str)]) A5;have X6:Pf g5 (g5++[.lst (gp.map .str)]):=(Pf.refl _).app _;have G6:(g5++[Cell.lst (gp.map .str)])[↥g5]? =some (.lst (gp.map .str)):=b7;generalize he:↥g5=e at y2 G6;generalize hg6:g5++[Cell.lst (gp.map .str)]=g6 at P6 A6 X6 G6 y2;obtain⟨ms,m1,m2,m3⟩:=b1z (ct:=ct) (k:=k) (c:=c0) (h:=g6) bQ da f206 s1 A6;have P7:Pf h (g6++[.lst (ms.map mkD)]):=P6.app _;have A7:=b6 (g:=[.lst (ms.map mkD)]) A6;have X7:Pf g6 (g6++[.lst (ms.map mkD)]):=(Pf.refl _).app _;have M7:(g6++[Cell.lst (ms.map mkD)])[↥g6]? =some (.lst (ms.map mkD)):=b7;generalize hb:↥g6=b at m3 M7;generalize hg7:g6++[Cell.lst (ms.map mkD)]=g7 at P7 A7 X7 M7 m3;obtain⟨ps,p1,p2,p3,p4⟩:=a9A (ct:=ct) (k:=k) (c:=c0) (h:=g7) bQ da f207 s1 A7;have P8:Pf h (g7++[.lst (ps.map ptD)]):=P7.app _;have X8:Pf g7 (g7++[.lst (ps.map ptD)]):=(Pf.refl _).app _;have N8:(g7++[Cell.lst (ps.map ptD)])[↥g7]? =some (.lst (ps.map ptD)):=b7;generalize hc:↥g7=c at p4 N8;generalize hg8:g7++[Cell.lst (ps.map ptD)]=g8 at P8 X8 N8 p4;have X58:=(X6.trans X7).trans X8;refine⟨⟨sh,ms,ps,ls,gp,cs,fe,rs⟩,g8,↥h,b,c,d,e,f,i,j,⟨s1,m1,m2,p1,p2,p3,l1,l2,l3,y1,k1,k2,k3,f1,f2,by show ↥rs<=26;ac_nf,r2,r3⟩,r1,P8,⟨X58.at A5,X8.at M7,N8,X58.at B5,(X7.trans X8).at G6,X58.at C5,X58.at D5,X58.at E5⟩,?_⟩;rw[i6 hF rfl];simp only[L9];rw[gc0];show a4e (exs ct (b5 ct F (k+2)) (.set 2 (.call 201 (.v 0>=>.o (.i 0)))>=>.set 3 (.call 204 (.o (.v 2)))>=>hB2) [~~~n,m⁻¹,none,none,none,none,none,none,none,none,none,none] h)=_;rw[st1];unfold hB2;rw[seq (by simp![show b5 ct F (k+2) 201 [.ref n,.int 1] g1=.ok (.int c1) g1 from hc1,l4];rfl)];rw[seq (by simp![show b5 ct F (k+2) 201 [.ref n,.int 2] g2=.ok (.int c2) g2 from hc2,k4];rfl)];rw[seq (by simp![show b5 ct F (k+2) 201 [.ref n,.int 2] g3=.ok (.int c2') g3 from hc2',hM];rfl)];unfold hB3;rw[seq (by simp![f3];rfl)];rw[seq (by simp![show b5 ct F (k+2) 201 [.ref n,.int 3] g4=.ok (.int c3) g4 from hc3,r4];rfl)];unfold hB4;rw[seq (by simp![y2];rfl)];rw[seq (by simp![m3];rfl)];rw[seq (by simp![p4];rfl)];have s8:(8<=SL)=True:=eq_true ∅;simp![s8]
end
noncomputable def num(i:Int):Str:=Str.ofString (toString i)
def ln(ws:List Str):Str:=Txt.join " " ws
theorem a7c(ws:List Str):cd (ln ws)=jn 32 (ws.map cd):=by show cd (Builtin.Str.glued " " _)=_;rw[StrLaws.glued_eq_join];exact a2X 32 ws
theorem a4x(h:cd x=jn 32 (ws.map cd)):x=ln ws:=U9 (h.trans (a7c ws).symm)
def U1(p:Str×Nat):List Str:=["shape",p.1,num p.2]
def M5(p:Int×Int):List Str:=[num p.1,num p.2]
def V0(m:Mk):List Str:=["mark",m.n,m.s,num m.a.1,num m.a.2,num m.b.1,num m.b.2]
def Y5(p:Pt):List Str:=["point",p.n,p.s,num p.a.1,num p.a.2]
noncomputable def N6(l:Lt):List Str:="letter"::l.n::l.j::l.w::l.fs
def a5X(n:Str):List Str:=["gap",n]
noncomputable def U2(c:Cs):List Str:="class"::c.n::c.fs
noncomputable def a9E(b:Bool):Str:=if b then "on" else "off"
def a2q(p:Str×Bool):List Str:=["feature",p.1,a9E p.2]
noncomputable def T0(r:Ru):List Str:="rule"::r.t::r.f::(r.b++("/":Str)::(r.c++("/":Str)::(r.a++(">":Str)::r.o)))
def M6(H:HL):List (List Str):=H.sh.map U1++H.mr.map V0++H.pt.map Y5++H.ls.map N6++H.gp.map a5X++H.cs.map U2++H.fe.map a2q++H.ru.map T0
theorem a2R{i:Int}(h: -99999<=i/\i<=99999):↥(num i)<=7:=by unfold num;rw[ofString_length];exact int_text_length_le10 (a:=i) (k:=6) ∅ nofun
theorem a7q{i:Int}(hi: -99999<=i/\i<=99999):biD .str h [.int i]=.ok (.str (num i)) h:=by
 simp only[biD,bi1,biL];rw[az]
 · rfl
 · by_cases h0:i.natAbs=0
   · rw[h0];decide
   · exact(Nat.log2_lt h0).mpr (aE (show i.natAbs<2^17 by ac_nf) (Nat.pow_le_pow_right ∅ ∅))
theorem G2:↥(Str.ofString " ")=1:=rfl
theorem a4U(h:∀w∈ws,↥w<=b):(ws.map (·.length)).sum<=↥ws*b:=by
 induction ws with
 |nil=>simp
 |cons x r ih=>
  rw[map_cons,List.sum_cons,length_cons];have:=ih λw hw=>h w (.tail _ hw);have:=h x (.head _);rw[Nat.add_mul];ac_nf
theorem b1E(h:∀w∈ws,↥w<=b):↥(ln ws)<=↥ws*(b+1):=by show(Builtin.Str.glued " " ws).length<=_;rw[StrLaws.glued_eq_join];refine aU (StrLaws.join_length_le _ _) ?_;have:=a4U h;rw[G2,Nat.mul_add];ac_nf
theorem b5W(h:∀w∈ws,↥w<=20)(hl:↥ws<=100):JoinOk " " ws=true:=by have:=a4U h;exact a5t (by rw[G2];ac_nf)
variable{ys:List Str}{p:Pat}{nb:Nat}
section
variable{ct:CT}{F:Nat->Option Fn}
theorem a3u{k:Nat}{p:Int×Int}(hF:F 213=some E2)(hp:a0u p):b5 ct F (k+1) 213 [spD p] h=.ok (.str (ln (M5 p))) h:=by rw[i6 hF rfl];simp only[E2];have i0:ixD h (spD p) (.int 0)=.ok (.int p.1) h:=ix_tup (i:=0) rfl;have i1:ixD h (spD p) (.int 1)=.ok (.int p.2) h:=ix_tup (i:=1) rfl;have l1:=a2R hp.1;have l2:=a2R hp.2;simp![i0,i1,a7q hp.1,a7q hp.2,op2,t9 (h:=h) (x:=num p.1) (y:=" ") (by rw[G2];ac_nf),t9 (h:=h) (x:=num p.1++(" ":Str)) (y:=num p.2) (by rw[n8,G2];ac_nf)];rw[show(num p.1++(" ":Str))++num p.2=ln (M5 p) from a4x (by rw[E3,E3,show cd (Str.ofString " ")=[32] from rfl];show cd (num p.1)++[32]++cd (num p.2)=cd (num p.1)++32::cd (num p.2);simp)];exact u8 rfl
theorem a3Y{a:Nat}{ys:List D}(h1:g[a]? =some (.lst xs))(h2:g[b]? =some (.lst ys))(hl:↥xs+↥ys<=100000):O5 g (.ref a) (.ref b)=.ok (.ref ↥g) (g++[.lst (xs++ys)]):=a1S h1 h2 hl
theorem b1F:biD .list h [.tup xs]=.ok (.ref ↥h) (h++[.lst xs]):=rfl
theorem b4N(h1:g[n]? =some (.lst (ts.map .str)))(jo:JoinOk sep ts=true):mtD .join g (.str sep) [.ref n]=.ok (.str (Txt.join sep ts)) g:=by
 have:rdL g n=some (ts.map .str):=by unfold rdL;rw[h1]
 simp only[mtD,this,a1U];rw[az jo]
theorem a6X{s:Nat}{fr:List Nat}{l:List α}(rp:α->D)(f:α->Str)(cJ:α->u9)(ha:ev ct c a env h=.ok (.ref s) h)(hs:h[s]? =some (.lst (l.map rp)))(hl:↥l<=1000)
 (hx:∀x∈l,F7 p (rp x) (F0 nb fr env)=some (cJ x)/\∀h,∃t,ev ct c e (cJ x) h=.ok (.str (f x)) (h++t)):∃t,ev ct c (.comp p (.seq a) nb fr .yes e) env h=.ok (.ref ↥(h++t)) (h++t++[.lst ((l.map f).map .str)]):=by
 have key:∀(l':List α) (bR:List D) (h':AH),(∀t,gOk [(s,.lst (l.map rp))] (h'++t)=true)->(∀x∈l',F7 p (rp x) (F0 nb fr env)=some (cJ x)/\∀h,∃t,ev ct c e (cJ x) h=.ok (.str (f x)) (h++t))->↥bR+↥l'<=SL->∃t,Q0 [(s,.lst (l.map rp))] p (tst ct c .yes) (ev ct c e) (F0 nb fr env) (l'.map rp) bR h'=.ok (bR++(l'.map f).map .str) (h'++t):=by
  intro l'
  induction l' with
  |nil=>
   intro bR h' g1 _ _;have g0:=g1 [];rw[bc] at g0;exact⟨[],by rw[map_nil,Q0,az g0];simp⟩
  |cons x r ih=>
   intro bR h' g1 ee hl';have g0:=g1 [];rw[bc] at g0;obtain⟨b1,b2⟩:=ee x (.head _);obtain⟨t,b2⟩:=b2 h';rw[length_cons] at hl';obtain⟨u,ih⟩:=ih (bR++[.str (f x)]) (h'++t) (λu=>by rw[aB];exact g1 _) (λy hy=>ee y (.tail _ hy)) (by rw[au];simp;ac_nf);refine⟨t++u,?_⟩;rw[map_cons,Q0,az g0,b1];simp only;rw[a4Q,d9,az rfl,b2,d9,az nofun,ih];simp
 obtain⟨t,kt⟩:=key l [] h (λt=>by simp[gOk,b6 (g:=t) hs]) hx (by show 0+_<=16777216;ac_nf);refine⟨t,?_⟩;rw[a2W (x:=(l.map rp,[(s,.lst (l.map rp))])) (h1:=h) (h2:=h++t) (ds:=(l.map f).map .str) (by rw[a2V,ha,d9];simp only[M3,hs]) (by rw[kt,nil_append])]
end
section
variable{ct:CT}{F:Nat->Option Fn}
def EvL(ct:CT)(c:CF)(e:E)(env:u9)(h:AH)(xs:List Str):Prop:=∃n t,ev ct c e env h=.ok (.ref n) (h++t)/\(h++t)[n]? =some (.lst (xs.map .str))/\(↥h<=n∨t=[])
theorem R5{b:E}{xs:List Str}(A:EvL ct c a env h xs)(B:∀t,EvL ct c b env (h++t) ys)(hl:↥xs+↥ys<=100000):EvL ct c (.bin .add a b) env h (xs++ys):=by
 obtain⟨n,t,a1,a2,_⟩:=A;obtain⟨m,u,b1,b2,_⟩:=B t;refine⟨↥(h++t++u),t++u++[.lst ((xs++ys).map .str)],?_,?_,.inl (by simp[au,Nat.add_assoc])⟩
 · simp![a1,b1,op2,a3Y (b6 (g:=u) a2) b2 (by rw[aa,aa];exact hl)];simp
 · rw[show h++(t++u++[Cell.lst ((xs++ys).map .str)])=h++t++u++[.lst ((xs++ys).map .str)] by simp];exact b7
theorem a0D{es:Es}{xs:List Str}(e:evs ct c es env h=.ok (xs.map .str) h)(hl:↥xs<=1000):EvL ct c (.lst es) env h xs:=by refine⟨↥h,[.lst (xs.map .str)],?_,b7,.inl (aj _)⟩;rw[b2K,e,d9,az (by rw[aa];show _<=16777216;ac_nf)];rfl
theorem V8{xs:List Str}(e:ev ct c a env h=.ok (.tup (xs.map .str)) h):EvL ct c (.bi .list (.cons a .nil)) env h xs:=by refine⟨↥h,[.lst (xs.map .str)],?_,b7,.inl (aj _)⟩;simp![e,b1F]
theorem c0v{i:Nat}{xs:List Str}(e:env[i]? =some (~~~n))(hn:h[n]? =some (.lst (xs.map .str))):EvL ct c (.v i) env h xs:=by refine⟨n,[],?_,by rw[bc];exact hn,.inr rfl⟩;rw[bc];simp![e]
theorem a3M{xs:List Str}(A:EvL ct c e env h xs)(jo:JoinOk sep xs=true):∃t,ev ct c (.mt .join (.k (.str sep)) (.cons e .nil)) env h=.ok (.str (Txt.join sep xs)) (h++t):=by obtain⟨n,t,a1,a2,_⟩:=A;refine⟨t,?_⟩;simp![mtT,a1,b4N a2 jo]
theorem b0J{k:Nat}{r:Ru}(hF:F 214=some D9)(hl:↥(T0 r)<=100)(hw:∀w∈T0 r,↥w<=20):b5 ct F (k+1) 214 [ruD r] h=.ok (.str (ln (T0 r))) h:=by
 have i0:∀h,ixD h (ruD r) (.int 0)=.ok (.str r.t) h:=λh=>ix_tup (i:=0) rfl;have i1:∀h,ixD h (ruD r) (.int 1)=.ok (.str r.f) h:=λh=>ix_tup (i:=1) rfl;have i2:∀h,ixD h (ruD r) (.int 2)=.ok (.tup (r.b.map .str)) h:=λh=>ix_tup (i:=2) rfl;have i3:∀h,ixD h (ruD r) (.int 3)=.ok (.tup (r.c.map .str)) h:=λh=>ix_tup (i:=3) rfl;have i4:∀h,ixD h (ruD r) (.int 4)=.ok (.tup (r.a.map .str)) h:=λh=>ix_tup (i:=4) rfl;have i5:∀h,ixD h (ruD r) (.int 5)=.ok (.tup (r.o.map .str)) h:=λh=>ix_tup (i:=5) rfl;have ll:↥r.b+↥r.c+↥r.a+↥r.o<=100:=by unfold T0 at hl;simp only[length_cons,au] at hl;ac_nf
 rw[i6 hF rfl];simp only[D9];show gcR 1 h (a4e (exs ct (b5 ct F k) _ [some (ruD r),none] h))=_;have A:=R5 (R5 (R5 (a0D (ct:=ct) (c:=b5 ct F k) (es:=(.s "rule">=>.ix (.v 0) (.i 0)>=>.o (.ix (.v 0) (.i 1)))) (env:=[some (ruD r),none]) (h:=h) (xs:=["rule",r.t,r.f]) (by simp![i0,i1]) (by show 3<=1000;decide)) (λt=>V8 (a:=(.ix (.v 0) (.i 2))) (xs:=r.b) (by simp![i2])) (by simp only[length_cons,length_nil];ac_nf)) (λt=>a0D (es:=(.o (.s "/"))) (xs:=["/"]) (by simp![]) ∅) (by simp only[au,length_cons,length_nil];ac_nf)) (λt=>V8 (a:=(.ix (.v 0) (.i 3))) (xs:=r.c) (by simp![i3])) (by simp only[au,length_cons,length_nil];ac_nf);obtain⟨n,t,a1,a2,_⟩:=A;rw[seq (bI:=[some (ruD r),~~~n]) (h':=h++t) (by rw[a0l,a1,d9];rfl)];have B:=R5 (R5 (R5 (R5 (c0v (ct:=ct) (c:=b5 ct F k) (i:=1) (env:=[some (ruD r),~~~n]) rfl a2) (λt=>a0D (es:=(.o (.s "/"))) (xs:=["/"]) (by simp![]) ∅) (by simp only[au,length_cons,length_nil];ac_nf)) (λt=>V8 (a:=(.ix (.v 0) (.i 4))) (xs:=r.a) (by simp![i4])) (by simp only[au,length_cons,length_nil];ac_nf)) (λt=>a0D (es:=(.o (.s ">"))) (xs:=[">"]) (by simp![]) ∅) (by simp only[au,length_cons,length_nil];ac_nf)) (λt=>V8 (a:=(.ix (.v 0) (.i 5))) (xs:=r.o) (by simp![i5])) (by simp only[au,length_cons,length_nil];ac_nf);have e:[("rule":Str),r.t,r.f]++r.b++[("/":Str)]++r.c++[("/":Str)]++r.a++[(">":Str)]++r.o=T0 r:=by unfold T0;simp
 rw[e] at B;obtain⟨u,b1⟩:=a3M B (b5W hw hl);rw[K4,a1i,b1,d9,d9];rw[aB];exact gc1 rfl
end
theorem a1l(n:Nat):cd (num (n:Int))=(Nat.toDigits 10 n).map Char.toNat:=W.KIN.signs_num n
theorem b1Z(n:Nat):n≠0->((Nat.toDigits 10 n).map Char.toNat).head?≠some 48:=by
 induction n using Nat.strongRecOn with
 |_ n ih=>
  intro h0
  by_cases h:n<10
  · rw[Nat.toDigits_of_lt_base h,map_cons,List.head?_cons,Nat.toNat_digitChar_of_lt_ten h];intro e;have:=ay e;ac_nf
  · rw[Nat.toDigits_of_base_le ∅ nofun,aq];have hn:=ih (n/10) nofun nofun;cases hd:Nat.toDigits 10 (n/10) with
    |nil=>exact absurd hd Nat.toDigits_ne_nil
    |cons a r=>rw[hd] at hn;exact hn
theorem a5C(n:Nat):(cd (num (n:Int))).all T5=true:=by rw[a1l];refine bp.mpr λc hc=>?_;obtain⟨d,hd,rfl⟩:=ao.mp hc;have:=Nat.isDigit_of_mem_toDigits ∅ ∅ hd;rw[a5D];unfold Char.isDigit at this;simp only[ae,bz] at this;exact⟨this.1,this.2⟩
theorem a3y(h:n<=99999):V5 (num (n:Int))=some (n:Int):=by
 have l5:↥(num (n:Int))<=5:=by rw[←u7,a1l,aa];exact(Nat.length_toDigits_le_iff ∅ ∅).mpr nofun
 have l1:↥(num (n:Int))≠0:=by rw[←u7,a1l,aa];exact λe=>Nat.toDigits_ne_nil (length_eq_zero_iff.mp e)
 unfold V5;rw[az (a5C n),aA,a1l,W.KIN.val_back];rintro(e|e|⟨e1,e2⟩)
 · exact l1 ((a9L _).mp e)
 · ac_nf
 · rw[a1l] at e1
   by_cases h0:n=0
   · rw[h0] at e2;exact absurd e2 ∅
   · exact b1Z n h0 e1
theorem a5M(m:Nat):cd (num (Int.negSucc m))=45::cd (num ((m+1:Nat):Int)):=by rw[a1l];show(Str.ofString ("-"++Nat.repr (m+1))).cps.toList=_;rw[Str.ofString_eq_toList];simp[Nat.toList_repr]
theorem K1{i:Int}(h: -99999<=i/\i<=99999):a0K (num i)=some i:=by
 unfold a0K;cases i with
 |ofNat n=>
  have h2:(n:Int)<=99999:=h.2;rw[aA]
  · exact a3y nofun
  · intro e;cases hc:cd (num (Int.ofNat n)) with
    |nil=>rw[hc] at e;cases e
    |cons c r=>
     rw[hc] at e;have e:=ay e;have:=a5C n;rw[show cd (num (n:Int))=c::r from hc,all_cons,e] at this;rw[show T5 45=false from by decide+kernel] at this;exact Bool.noConfusion this
 |negSucc m=>
  have h1:=h.1;rw[Int.negSucc_eq] at h1;have t:tl (num (Int.negSucc m))=num ((m+1:Nat):Int):=U9 (by rw[a3P,a5M];rfl);rw[az (by rw[a5M];rfl),t,a3y nofun];simp only;rw[aA nofun];congr 1
structure WOk(w:Str):Prop where
 l:↥w<=20
 p:↥w≠0
 c:∀c∈cd w,c≠32/\c≠10
theorem WOk.num{i:Int}(h: -99999<=i/\i<=99999):WOk (num i):=by
 have fg:∀n:Nat,∀c∈cd (EV.num (n:Int)),c≠32/\c≠10:=λn c hc=>by have:=(a5D c).mp (bp.mp (a5C n) c hc);ac_nf
 refine⟨by have:=a2R h;ac_nf,?_,?_⟩
 · rw[←u7];cases i with
   |ofNat n=>
    show(cd (EV.num (n:Int))).length≠0;rw[a1l,aa];exact λe=>Nat.toDigits_ne_nil (length_eq_zero_iff.mp e)
   |negSucc m=>rw[a5M];exact Nat.succ_ne_zero _
 · cases i with
   |ofNat n=>exact fg n
   |negSucc m=>
    rw[a5M];intro c hc;rcases aH.mp hc with rfl|hc
    · decide
    · exact fg _ c hc
theorem b3P{c:Nat}(h:Q2 c=true):c≠32/\c≠10:=by
 unfold Q2 at h;have h:=ax h;have:∀c∈cd a1t,c≠32/\c≠10:=by decide+kernel
 exact this c h
theorem WOk.name{w:Str}(h:g9 w=true):WOk w:=by unfold g9 at h;simp only[ae,bz] at h;exact⟨by ac_nf,by ac_nf,λc hc=>b3P (bp.mp h.2 c hc)⟩
theorem WOk.at{w:Str}(h:g9 w=true):WOk (("@":Str)++w):=by
 have n:=Z3 h;have k:=WOk.name h;refine⟨by rw[n8,show(Str.ofString "@").length=1 from rfl];ac_nf,by rw[n8,show(Str.ofString "@").length=1 from rfl];ac_nf,λc hc=>?_⟩;rw[E3] at hc;rcases aN.mp hc with hc|hc
 · have:c=64:=by simpa [show cd (Str.ofString "@")=[64] from by decide+kernel] using hc
   ac_nf
 · exact k.c c hc
structure Row(ws:List Str):Prop where
 n:ws≠[]
 l:↥ws<=40
 w:∀w∈ws,WOk w
instance (w:Str):Decidable (↥w<=20/\↥w≠0/\∀c∈cd w,c≠32/\c≠10):=inferInstance
theorem WOk.k{w:Str}(h:↥w<=20/\↥w≠0/\∀c∈cd w,c≠32/\c≠10):WOk w:=⟨h.1,h.2.1,h.2.2⟩
theorem Row.nil:∀w∈([]:List Str),WOk w:=λ_ h=>nomatch h
theorem k7{a:Str}{r:List Str}(h:WOk a)(hr:∀w∈r,WOk w):∀w∈a::r,WOk w:=λw hw=>by
 rcases aH.mp hw with rfl|hw
 · exact h
 · exact hr w hw
theorem a7z{a r:List Str}(h:∀w∈a,WOk w)(hr:∀w∈r,WOk w):∀w∈a++r,WOk w:=λw hw=>by
 rcases aN.mp hw with hw|hw
 · exact h w hw
 · exact hr w hw
section
variable{H:HL}(K:HLok H)
include K
theorem N9{n:Str}(h:n∈H.sh.map (·.1)):g9 n=true:=by obtain⟨p,hp,rfl⟩:=ao.mp h;exact(K.sh.ok p hp).1
theorem a8n{s:Str}(h:a0I s):WOk s:=by rcases h with rfl|rfl<;>exact WOk.k (by decide+kernel)
theorem a5m{m:Mk}(h:m∈H.mr):m.n∈H.sh.map (·.1):=K.mr.subset (ao.mpr ⟨m,h,rfl⟩)
theorem a1J(h:f∈H.fe.map (·.1)):g9 f=true:=K.fen.ok f h
theorem b1O{i:Str}(h:Y3 H.sh H.cs i):WOk i:=by
 rcases h with h|⟨c,hc,rfl⟩
 · exact WOk.name (N9 K h)
 · exact WOk.at (K.cso c hc).nm
theorem a4q{p:Str×Nat}(h:p∈H.sh):Row (U1 p):=by have k:=K.sh.ok p h;exact⟨cons_ne_nil _ _,Nat.le_of_ble_eq_true rfl,k7 (WOk.k (by decide+kernel)) (k7 (WOk.name k.1) (k7 (WOk.num (by have:=k.2;ac_nf)) Row.nil))⟩
theorem a6o{m:Mk}(h:m∈H.mr):Row (V0 m):=by obtain⟨k1,k2,k3⟩:=K.mko m h;exact⟨cons_ne_nil _ _,Nat.le_of_ble_eq_true rfl,k7 (WOk.k (by decide+kernel)) (k7 (WOk.name (N9 K (a5m K h))) (k7 (a8n K k1) (k7 (WOk.num k2.1) (k7 (WOk.num k2.2) (k7 (WOk.num k3.1) (k7 (WOk.num k3.2) Row.nil))))))⟩
theorem a4r{p:Pt}(h:p∈H.pt):Row (Y5 p):=by obtain⟨k1,k2,k3⟩:=K.pto p h;exact⟨cons_ne_nil _ _,Nat.le_of_ble_eq_true rfl,k7 (WOk.k (by decide+kernel)) (k7 (WOk.name (N9 K k1)) (k7 (a8n K k2) (k7 (WOk.num k3.1) (k7 (WOk.num k3.2) Row.nil))))⟩
theorem a0T{l:Lt}(h:l∈H.ls):Row (N6 l):=by
 have k:=K.lso l h;have kl:=k.few;refine⟨cons_ne_nil _ _,by unfold N6;simp only[length_cons];ac_nf,k7 (WOk.k (by decide+kernel)) (k7 (WOk.name k.nm) (k7 ?_ (k7 ?_ λw hw=>WOk.name (N9 K (k.fs w hw)))))⟩
 · rcases k.js with e|e|e|e<;>rw[e]<;>exact WOk.k (by decide+kernel)
 · rcases k.ws with e|e|e<;>rw[e]<;>exact WOk.k (by decide+kernel)
theorem a5A{n:Str}(h:n∈H.gp):g9 n=true:=by obtain⟨l,hl,rfl⟩:=ao.mp (K.gp.subset h);exact(K.lso l hl).nm
theorem a8t{n:Str}(h:n∈H.gp):Row (a5X n):=⟨cons_ne_nil _ _,Nat.le_of_ble_eq_true rfl,k7 (WOk.k (by decide+kernel)) (k7 (WOk.name (a5A K h)) Row.nil)⟩
theorem a1W{c:Cs}(h:c∈H.cs):Row (U2 c):=by have k:=K.cso c h;have kl:=k.few;exact⟨cons_ne_nil _ _,by unfold U2;simp only[length_cons];ac_nf,k7 (WOk.k (by decide+kernel)) (k7 (WOk.name k.nm) λw hw=>WOk.name (N9 K (k.fs w hw)))⟩
theorem a6p{p:Str×Bool}(h:p∈H.fe):Row (a2q p):=by refine⟨cons_ne_nil _ _,Nat.le_of_ble_eq_true rfl,k7 (WOk.k (by decide+kernel)) (k7 (WOk.name (a1J K (ao.mpr ⟨p,h,rfl⟩))) (k7 ?_ Row.nil))⟩;cases p.2<;>exact WOk.k (by decide+kernel)
theorem a3r{r:Ru}(h:r∈H.ru):Row (T0 r):=by have k:=K.ruo r h;have l1:=k.b3;have l2:=k.c4;have l3:=k.a3;have l4:=k.o3;refine⟨cons_ne_nil _ _,by unfold T0;simp only[length_cons,au];ac_nf,k7 (WOk.k (by decide+kernel)) (k7 (WOk.name k.nm) (k7 (WOk.name (a1J K k.fe)) (a7z (λw hw=>b1O K (k.b w hw)) (k7 (WOk.k (by decide+kernel)) (a7z (λw hw=>b1O K (k.c w hw)) (k7 (WOk.k (by decide+kernel)) (a7z (λw hw=>b1O K (k.a w hw)) (k7 (WOk.k (by decide+kernel)) λw hw=>WOk.name (N9 K (k.o w hw))))))))))⟩
theorem a8p:∀ws∈M6 H,Row ws:=λws h=>by
 unfold M6 at h;simp only[aN,ao] at h;rcases h with((((((⟨x,h,rfl⟩|⟨x,h,rfl⟩)|⟨x,h,rfl⟩)|⟨x,h,rfl⟩)|⟨x,h,rfl⟩)|⟨x,h,rfl⟩)|⟨x,h,rfl⟩)|⟨x,h,rfl⟩
 · exact a4q K h
 · exact a6o K h
 · exact a4r K h
 · exact a0T K h
 · exact a8t K h
 · exact a1W K h
 · exact a6p K h
 · exact a3r K h
theorem a8i{f:α->β}{l:List α}{s:List β}(h:(l.map f).Sublist s):↥l<=↥s:=by have:=h.length_le;rw[aa] at this;exact this
theorem Y9:↥(M6 H)<=300/\M6 H≠[]:=by
 have a:=K.sh.hi;have a0:=K.sh.lo;have b:=a8i K K.mr;rw[aa] at b;have c:=K.ptl;have d:=K.ls;have e:=K.gp.length_le;rw[aa] at e;have f:=K.cs;have g:=K.fe;have i:=K.rul;have l:↥(M6 H)=↥H.sh+↥H.mr+↥H.pt+↥H.ls+↥H.gp+↥H.cs+↥H.fe+↥H.ru:=by unfold M6;simp only[au,aa]
 exact⟨by ac_nf,λz=>by rw[z] at l;simp only[length_nil] at l;ac_nf⟩
end
theorem b0L(r:Row ws):N5 (ln ws)=ws:=by unfold N5;rw[show Txt.split (ln ws) " "=ws from a3g (c:=32) r.n (λp hp hc=>((r.w p hp).c 32 hc).1 rfl) (a7c ws)];exact List.filter_eq_self.mpr λw hw=>bf λe=>(r.w w hw).p ((a9L w).mp e)
theorem b1J{c x:Nat}:∀{ps:List (List Nat)},x∈jn c ps->x=c∨∃p∈ps,x∈p
 |[],h=>nomatch h
 |[p],h=>.inr ⟨p,.head _,h⟩
 |p::q::r,h=>by
  rcases aN.mp (show x∈p++c::jn c (q::r) from h) with h|h
  · exact .inr ⟨p,.head _,h⟩
  · rcases aH.mp h with h|h
    · exact .inl h
    · rcases b1J h with h|⟨y,hy,h⟩
      · exact .inl h
      · exact .inr ⟨y,.tail _ hy,h⟩
theorem b0K(r:Row ws):10∉cd (ln ws):=λh=>by
 rw[a7c] at h;rcases b1J h with h|⟨p,hp,h⟩
 · exact absurd h ∅
 · obtain⟨w,hw,rfl⟩:=ao.mp hp;exact((r.w w hw).c 10 h).2 rfl
theorem a8s(r:Row ws):↥(ln ws)<=840:=by have:=b1E (ws:=ws) (b:=20) λw hw=>(r.w w hw).l;have l:=r.l;have:↥ws*21<=40*21:=Nat.mul_le_mul_right 21 l;ac_nf
def a8O(H:HL):Str:=Txt.join "\n" ((M6 H).map ln)
theorem a9i{H:HL}(K:HLok H):Txt.split (a8O H) "\n"=(M6 H).map ln:=by
 refine a3g (c:=10) (λe=>(Y9 K).2 (List.map_eq_nil_iff.mp e)) (λp hp=>?_) ?_
 · obtain⟨ws,hw,rfl⟩:=ao.mp hp;exact b0K (a8p K ws hw)
 · show cd (Builtin.Str.glued "\n" _)=_;rw[StrLaws.glued_eq_join];exact a2X 10 _
theorem a6n{H:HL}(K:HLok H):(((M6 H).map ln).map (·.length)).sum<=300*840:=by
 have:=a4U (ws:=(M6 H).map ln) (b:=840) λw hw=>by obtain⟨ws,hq,rfl⟩:=ao.mp hw;exact a8s (a8p K ws hq)
 rw[aa] at this;have l:=(Y9 K).1;exact aU this (Nat.mul_le_mul_right _ l)
theorem b3u{H:HL}(K:HLok H):↥(a8O H)<=1000000:=by have:=a6n K;have l:=(Y9 K).1;show(Builtin.Str.glued "\n" _).length<=_;rw[StrLaws.glued_eq_join];refine aU (StrLaws.join_length_le _ _) ?_;rw[aa,show(Str.ofString "\n").length=1 from rfl];ac_nf
theorem b6n{H:HL}(K:HLok H):JoinOk "\n" ((M6 H).map ln)=true:=by have:=a6n K;have l:=(Y9 K).1;exact a5t (by rw[aa,show(Str.ofString "\n").length=1 from rfl];ac_nf)
theorem k32:cd (Str.ofString " ")=[32]:=rfl
theorem b3F(n w:Str):(("shape ":Str)++n++(" ":Str))++w=ln ["shape",n,w]:=a4x (by simp only[E3,k32,show cd (Str.ofString "shape ")=cd (Str.ofString "shape")++[32] from by decide+kernel,map_cons,map_nil,jn,aB,cons_append,nil_append])
theorem b8Z(n:Str):("gap ":Str)++n=ln ["gap",n]:=a4x (by simp only[E3,show cd (Str.ofString "gap ")=cd (Str.ofString "gap")++[32] from by decide+kernel,map_cons,map_nil,jn,aB,cons_append,nil_append])
theorem b6t(n w:Str):(("feature ":Str)++n++(" ":Str))++w=ln ["feature",n,w]:=a4x (by simp only[E3,k32,show cd (Str.ofString "feature ")=cd (Str.ofString "feature")++[32] from by decide+kernel,map_cons,map_nil,jn,aB,cons_append,nil_append])
theorem b3G(n s a b:Str):((((("point ":Str)++n)++(" ":Str))++s)++(" ":Str))++ln [a,b]=ln ["point",n,s,a,b]:=a4x (by simp only[E3,k32,a7c,show cd (Str.ofString "point ")=cd (Str.ofString "point")++[32] from by decide+kernel,map_cons,map_nil,jn,aB,cons_append,nil_append])
theorem b6s(n s a b c d:Str):((((("mark ":Str)++n)++(" ":Str))++s)++(" ":Str))++((ln [a,b]++(" ":Str))++ln [c,d])=ln ["mark",n,s,a,b,c,d]:=a4x (by simp only[E3,k32,a7c,show cd (Str.ofString "mark ")=cd (Str.ofString "mark")++[32] from by decide+kernel,map_cons,map_nil,jn,aB,cons_append,nil_append])
def TS(T:D)(h0:AH)(env:u9)(h:AH)(xs:List Str):Prop:=∃n e1 e3 e4 e5 e6 e7 e8 e9,env=[some T,e1,~~~n,e3,e4,e5,e6,e7,e8,e9]/\Pf h0 h/\↥h0<=n/\h[n]? =some (.lst (xs.map .str))
variable{body:Ss}
section
variable{ct:CT}{F:Nat->Option Fn}
theorem a0m{s:Nat}{fr:List Nat}{l:List α}(rp:α->D)(f:α->Str)(cJ:α->u9)(ha:ev ct c a env h=.ok (.ref s) h)(hs:h[s]? =some (.lst (l.map rp)))(hl:↥l<=1000)
 (hx:∀x∈l,F7 p (rp x) (F0 nb fr env)=some (cJ x)/\∀h,∃t,ev ct c e (cJ x) h=.ok (.str (f x)) (h++t)):EvL ct c (.comp p (.seq a) nb fr .yes e) env h (l.map f):=by
 obtain⟨t,e⟩:=a6X rp f cJ ha hs hl hx;exact⟨↥(h++t),t++[.lst ((l.map f).map .str)],by rw[e,aB],by rw[←aB];exact b7,.inl ⋯⟩
theorem b2I{b:E}{xs:List Str}{i:Nat}(e:env[i]? =some (~~~n))(hn:h[n]? =some (.lst (xs.map .str)))(B:EvL ct c b env h ys)(hl:↥xs+↥ys<=1000):EvL ct c (.bin .add (.v i) b) env h (xs++ys):=by obtain⟨m,u,b1,b2,_⟩:=B;refine⟨↥(h++u),u++[.lst (xs.map .str++ys.map .str)],?_,by rw[←aB,b7,aq],.inl ⋯⟩;simp![e,b1,op2,a3Y (b6 (g:=u) hn) b2 (by rw[aa,aa];ac_nf)];simp
theorem TS.pf{T:D}{xs:List Str}(S:TS T h0 env h xs):Pf h0 h:=by obtain⟨n,e1,e3,e4,e5,e6,e7,e8,e9,rfl,p,_⟩:=S;exact p
theorem a3c{T:D}{Tl:List D}{xs:List Str}{i s:Nat}(S:TS T h0 env h xs)(hT:T=.tup Tl)(hi:Tl[i]? = ~~~s):ev ct c (.ix (.v 0) (.k ⇑i)) env h=.ok (.ref s) h:=by obtain⟨n,e1,e3,e4,e5,e6,e7,e8,e9,rfl,_⟩:=S;subst hT;simp![ix_tup (h:=h) hi]
theorem a4R{T:D}{xs:List Str}{C:E}(S:TS T h0 env h xs)(hC:EvL ct c C env h ys)(hl:↥xs+↥ys<=1000):∃bI h',ex ct c (.set 2 (.bin .add (.v 2) C)) env h=.ok (.nx bI) h'/\TS T h0 bI h' (xs++ys):=by obtain⟨n,e1,e3,e4,e5,e6,e7,e8,e9,rfl,p,l,g⟩:=S;obtain⟨m,u,c1,c2,_⟩:=hC;refine⟨[some T,e1,some (.ref ↥(h++u)),e3,e4,e5,e6,e7,e8,e9],h++u++[.lst (xs.map .str++ys.map .str)],?_,_,e1,e3,e4,e5,e6,e7,e8,e9,rfl,(p.app _).app _,by have:=p.len;rw[au];ac_nf,by rw[aq];exact b7⟩;simp![c1,op2,a3Y (b6 (g:=u) g) c2 (by rw[aa,aa];ac_nf)]
theorem b0p{T:D}{xs:List Str}{s:Nat}{l:List α}(rp:α->D)(f:α->Str)(S:TS T h0 env h xs)(ha:ev ct c a env h=.ok (.ref s) h)(hs:h0[s]? =some (.lst (l.map rp)))
 (hb:∀x∈l,∀env h xs,TS T h0 env h xs->↥xs<=1000->∃bY bI h',F7 p (rp x) env=some bY/\exs ct c body bY h=.ok (.nx bI) h'/\TS T h0 bI h' (xs++[f x])) (hl:↥xs+↥l<=1000):∃bI h',ex ct c (.for p (.seq a) body) env h=.ok (.nx bI) h'/\TS T h0 bI h' (xs++l.map f):=by
 have S0:=S;obtain⟨n,e1,e3,e4,e5,e6,e7,e8,e9,rfl,pf,_⟩:=S;obtain⟨bI,h',q1,q2⟩:=A9 (g:=[(s,.lst (l.map rp))]) (p:=p) (body:=exs ct c body) (λj env h=>TS T h0 env h (xs++(l.take j).map f)) (λj env h S=>by
  obtain⟨n,e1,e3,e4,e5,e6,e7,e8,e9,rfl,pf,_⟩:=S;simp[gOk,pf.at hs]) (l.map rp) 0 _ h (λj x env h hx hP=>by
  have hj:j<↥l:=by simpa using(ac.mp hx).1
  rw[ak,ai hj] at hx;obtain rfl:rp l[j]=x:=ay hx;rw[aC] at hP⊢;obtain⟨bY,bI,h',b1,b2,b3⟩:=hb l[j] (bu hj) env h _ hP (by rw[au,aa,aO];ac_nf);refine⟨bY,bI,h',b1,b2,?_⟩;rw[List.take_add_one,ai hj,aq,←aB];exact b3) (by rw[take_zero,map_nil,bc];exact S0)
 refine⟨bI,h',?_,?_⟩
 · rw[b2F,a2V,ha,d9];simp only[M3,pf.at hs];rw[d9];exact q1
 · rw[aa,aC,bh] at q2;exact q2
theorem b0q{T:D}{xs:List Str}{t:AH}(S:TS T h0 env h xs)(he:ev ct c e env h=.ok (.str z) (h++t))(hl:↥xs<=1000):∃h',ex ct c (.ex (.mt .append (.v 2) (.cons e .nil))) env h=.ok (.nx env) h'/\TS T h0 env h' (xs++[z]):=by obtain⟨n,e1,e3,e4,e5,e6,e7,e8,e9,rfl,p,l,g⟩:=S;refine⟨(h++t).set n (.lst (xs.map .str++[.str z])),?_,n,e1,e3,e4,e5,e6,e7,e8,e9,rfl,(p.app _).set l,l,by rw[w6 (b6 g),aq];rfl⟩;simp![D3 g,he,K0 (b6 (g:=t) g) (by rw[aa];ac_nf)]
theorem a8T(A:EvL ct c e env h ws)(r:Row ws):∃t,ev ct c (.mt .join (.s " ") (.cons e .nil)) env h=.ok (.str (ln ws)) (h++t):=a3M A (b5W (λw hw=>(r.w w hw).l) (by have:=r.l;ac_nf))
theorem a3A:↥(Str.ofString "shape ")=6:=rfl
theorem a1A:↥(Str.ofString "mark ")=5:=rfl
theorem Z1:↥(Str.ofString "point ")=6:=rfl
theorem b7s:↥(Str.ofString "gap ")=4:=rfl
theorem a5l:↥(Str.ofString "feature ")=8:=rfl
theorem a3v{p:Int×Int}(hp:a0u p):↥(ln (M5 p))<=42:=b1E (ws:=M5 p) (b:=20) (k7 (WOk.num hp.1) (k7 (WOk.num hp.2) Row.nil) · · |>.l)
variable{H:HL}(K:HLok H)
include K
theorem b5r{p:Str×Nat}(hp:p∈H.sh):ev ct c b4U [some (.str p.1),some (.int (p.2:Int))] h=.ok (.str (ln (U1 p))) h:=by have k:=K.sh.ok p hp;have l1:=Z3 k.1;have l2:=a2R (i:=(p.2:Int)) (by have:=k.2;ac_nf);unfold b4U;simp![op2,t9 (h:=h) (x:="shape ") (y:=p.1) (by rw[a3A];ac_nf),t9 (h:=h) (x:=("shape ":Str)++p.1) (y:=" ") (by rw[n8,a3A,G2];ac_nf),a7q (i:=(p.2:Int)) (h:=h) (by have:=k.2;ac_nf),t9 (h:=h) (x:=("shape ":Str)++p.1++(" ":Str)) (y:=num p.2) (by rw[n8,n8,a3A,G2];ac_nf),b3F];rfl
theorem c0H{n:Str}(hn:n∈H.gp):ev ct c (.bin .add (.s "gap ") (.v 0)) [some (.str n)] h=.ok (.str (ln (a5X n))) h:=by have l1:=Z3 (a5A K hn);simp![op2,t9 (h:=h) (x:="gap ") (y:=n) (by rw[b7s];ac_nf),b8Z];rfl
theorem b8h{p:Str×Bool}(hp:p∈H.fe):∃t,ev ct c b7O [some (.str p.1),some (.bl p.2)] h=.ok (.str (ln (a2q p))) (h++t):=by
 have l1:=Z3 (a1J K (ao.mpr ⟨p,hp,rfl⟩));have lo:↥(a9E p.2)<=20:=by cases p.2<;>decide
 have ib:biD .int (h++[.lst [.str "off",.str "on"]]) [.bl p.2]=.ok ⇑(if p.2 then 1 else 0) (h++[.lst [.str "off",.str "on"]]):=by cases p.2<;>rfl
 have ix:ixD (h++[.lst [.str "off",.str "on"]]) (.ref ↥h) ⇑(if p.2 then 1 else 0)=.ok (.str (a9E p.2)) (h++[.lst [.str "off",.str "on"]]):=r8 b7 (by cases p.2<;>rfl);refine⟨[.lst [.str "off",.str "on"]],?_⟩;unfold b7O;simp![op2,t9 (h:=h) (x:="feature ") (y:=p.1) (by rw[a5l];ac_nf),t9 (h:=h) (x:=("feature ":Str)++p.1) (y:=" ") (by rw[n8,a5l,G2];ac_nf),v8,ib,ix,t9 (h:=h++[.lst [.str "off",.str "on"]]) (x:=("feature ":Str)++p.1++(" ":Str)) (y:=a9E p.2) (by rw[n8,n8,a5l,G2];ac_nf),b6t];rfl
theorem b5u{x:Cs}(hx:x∈H.cs):∃t,ev ct c (.mt .join (.s " ") (.cons b7N .nil)) [some (.str x.n),some (.tup (x.fs.map .str))] h=.ok (.str (ln (U2 x))) (h++t):=by have r:=a1W K hx;have l:=r.l;have A:=R5 (a0D (ct:=ct) (c:=c) (es:=(.s "class">=>.o (.v 0))) (env:=[some (.str x.n),some (.tup (x.fs.map .str))]) (h:=h) (xs:=["class",x.n]) (by simp![]) (by show 2<=1000;decide)) (λt=>V8 (a:=.v 1) (xs:=x.fs) (by simp![])) (by unfold U2 at l;simp only[length_cons,length_nil] at l⊢;ac_nf);exact a8T (e:=b7N) A r
theorem b3g{T:D}{xs:List Str}{x:Lt}(hx:x∈H.ls)(S:TS T h0 env h xs)(hl:↥xs<=1000):∃bY bI h',F7 (htP 1 7 8 9) (ltD x) env=some bY/\exs ct c b4V bY h=.ok (.nx bI) h'/\TS T h0 bI h' (xs++[ln (N6 x)]):=by have r:=a0T K hx;have l:=r.l;obtain⟨n,e1,e3,e4,e5,e6,e7,e8,e9,rfl,p,ln',g⟩:=S;have S1:TS T h0 [some T,some (.str x.n),~~~n,e3,e4,e5,e6,some (.str x.j),some (.str x.w),some (.tup (x.fs.map .str))] h xs:=⟨n,_,_,_,_,_,_,_,_,rfl,p,ln',g⟩;have A:=R5 (a0D (ct:=ct) (c:=c) (es:=(.s "letter">=>.v 1>=>.v 7>=>.o (.v 8))) (env:=[some T,some (.str x.n),~~~n,e3,e4,e5,e6,some (.str x.j),some (.str x.w),some (.tup (x.fs.map .str))]) (h:=h) (xs:=["letter",x.n,x.j,x.w]) (by simp![]) (by show 4<=1000;decide)) (λt=>V8 (a:=.v 9) (xs:=x.fs) (by simp![])) (by unfold N6 at l;simp only[length_cons,length_nil] at l⊢;ac_nf);obtain⟨t,q⟩:=a8T (e:=c0e) A r;obtain⟨h',q1,q2⟩:=b0q S1 q hl;refine⟨_,_,h',rfl,?_,q2⟩;unfold b4V;show exs ct c _ [some T,some (.str x.n),~~~n,e3,e4,e5,e6,some (.str x.j),some (.str x.w),some (.tup (x.fs.map .str))] h=_;rw[seq q1,a5E]
variable(dY:F 213=some E2)
include dY
theorem b5s{k:Nat}{p:Pt}(hp:p∈H.pt):ev ct (b5 ct F (k+1)) b7P [some (.str p.n),some (.str p.s),some (spD p.a)] h=.ok (.str (ln (Y5 p))) h:=by obtain⟨k1,k2,k3⟩:=K.pto p hp;have l1:=Z3 (N9 K k1);have l2:=(a8n K k2).l;have l3:=a3v k3;unfold b7P;simp![op2,a3u (k:=k) (h:=h) dY k3,t9 (h:=h) (x:="point ") (y:=p.n) (by rw[Z1];ac_nf),t9 (h:=h) (x:=("point ":Str)++p.n) (y:=" ") (by rw[n8,Z1,G2];ac_nf),t9 (h:=h) (x:=("point ":Str)++p.n++(" ":Str)) (y:=p.s) (by rw[n8,n8,Z1,G2];ac_nf),t9 (h:=h) (x:=("point ":Str)++p.n++(" ":Str)++p.s) (y:=" ") (by rw[n8,n8,n8,Z1,G2];ac_nf),t9 (h:=h) (x:=("point ":Str)++p.n++(" ":Str)++p.s++(" ":Str)) (y:=ln (M5 p.a)) (by rw[n8,n8,n8,n8,Z1,G2];ac_nf)];unfold M5;rw[b3G];rfl
theorem b8x{k:Nat}{T:D}{xs:List Str}{x:Mk}(hx:x∈H.mr)(S:TS T h0 env h xs)(hl:↥xs<=1000):∃bY bI h',F7 (htP 1 3 4 5) (mkD x) env=some bY/\exs ct (b5 ct F (k+1)) b4W bY h=.ok (.nx bI) h'/\TS T h0 bI h' (xs++[ln (V0 x)]):=by
 obtain⟨k1,k2,k3⟩:=K.mko x hx;have l1:=Z3 (N9 K (a5m K hx));have l2:=(a8n K k1).l;have l3:=a3v k2;have l4:=a3v k3;obtain⟨n,e1,e3,e4,e5,e6,e7,e8,e9,rfl,p,ln',g⟩:=S;have S1:TS T h0 [some T,some (.str x.n),~~~n,some (.str x.s),some (spD x.a),some (spD x.b),some (.str ((ln (M5 x.a)++(" ":Str))++ln (M5 x.b))),e7,e8,e9] h xs:=⟨n,_,_,_,_,_,_,_,_,rfl,p,ln',g⟩;have q:ev ct (b5 ct F (k+1)) (.bin .add (.bin .add (.bin .add (.bin .add (.bin .add (.s "mark ") (.v 1)) (.s " ")) (.v 3)) (.s " ")) (.v 6)) [some T,some (.str x.n),~~~n,some (.str x.s),some (spD x.a),some (spD x.b),some (.str ((ln (M5 x.a)++(" ":Str))++ln (M5 x.b))),e7,e8,e9] h=.ok (.str (ln (V0 x))) (h++[]):=by rw[bc];simp![op2,t9 (h:=h) (x:="mark ") (y:=x.n) (by rw[a1A];ac_nf),t9 (h:=h) (x:=("mark ":Str)++x.n) (y:=" ") (by rw[n8,a1A,G2];ac_nf),t9 (h:=h) (x:=("mark ":Str)++x.n++(" ":Str)) (y:=x.s) (by rw[n8,n8,a1A,G2];ac_nf),t9 (h:=h) (x:=("mark ":Str)++x.n++(" ":Str)++x.s) (y:=" ") (by rw[n8,n8,n8,a1A,G2];ac_nf),t9 (h:=h) (x:=("mark ":Str)++x.n++(" ":Str)++x.s++(" ":Str)) (y:=ln (M5 x.a)++(" ":Str)++ln (M5 x.b)) (by rw[n8,n8,n8,n8,n8,n8,a1A,G2];ac_nf)];unfold M5;rw[b6s];rfl
 obtain⟨h',q1,q2⟩:=b0q S1 q hl;refine⟨_,_,h',rfl,?_,q2⟩;unfold b4W;rw[seq (bI:=[some T,some (.str x.n),~~~n,some (.str x.s),some (spD x.a),some (spD x.b),some (.str ((ln (M5 x.a)++(" ":Str))++ln (M5 x.b))),e7,e8,e9]) (h':=h) (by simp![op2,a3u (ct:=ct) (k:=k) (h:=h) dY k2,a3u (ct:=ct) (k:=k) (h:=h) dY k3,t9 (h:=h) (x:=ln (M5 x.a)) (y:=" ") (by rw[G2];ac_nf),t9 (h:=h) (x:=ln (M5 x.a)++(" ":Str)) (y:=ln (M5 x.b)) (by rw[n8,G2];ac_nf)]),seq q1,a5E]
theorem b2a{k:Nat}{a c d e f i:Nat}(f214:F 214=some D9)(f215:F 215=some J7)(A:HAt H h a b c d e f i j):b5 ct F (k+2) 215 [.tup [.ref a,.ref b,.ref c,.ref d,.ref e,.ref f,.ref i,.ref j]] h=.ok (.str (a8O H)) h:=by
 rw[i6 f215 rfl];simp only[J7];generalize hT:D.tup [.ref a,.ref b,.ref c,.ref d,.ref e,.ref f,.ref i,.ref j]=T;show gcR 1 h (a4e (exs ct (b5 ct F (k+1)) _ [some T,none,none,none,none,none,none,none,none,none] h))=_;have rl:=(Y9 K).1;have ll:↥H.sh+↥H.mr+↥H.pt+↥H.ls+↥H.gp+↥H.cs+↥H.fe+↥H.ru<=300:=by unfold M6 at rl;simp only[au,aa] at rl;exact rl
 obtain⟨t0,c0⟩:=a6X (ct:=ct) (c:=b5 ct F (k+1)) (p:=(.tp (.nm 0>=>.nm 1>=>.nil))) (a:=(.ix (.v 0) (.i 0))) (e:=b4U) (nb:=2) (fr:=[]) (env:=[some T,none,none,none,none,none,none,none,none,none]) (h:=h) (l:=H.sh) (s:=a) (λp=>.tup [.str p.1,.int (p.2:Int)]) (λp=>ln (U1 p)) (λp=>[some (.str p.1),some (.int (p.2:Int))]) (by rw[←hT];simp![a0S]) A.sh nofun (λx hx=>⟨rfl,λh=>⟨[],by rw[bc];exact b5r K hx⟩⟩);have S0:TS T h [some T,none,some (.ref ↥(h++t0)),none,none,none,none,none,none,none] (h++t0++[.lst ((H.sh.map λp=>ln (U1 p)).map .str)]) (H.sh.map λp=>ln (U1 p)):=⟨_,_,_,_,_,_,_,_,_,rfl,((Pf.refl h).app _).app _,by simp,b7⟩;rw[seq (bI:=[some T,none,some (.ref ↥(h++t0)),none,none,none,none,none,none,none]) (by unfold c0k;rw[a0l,c0,d9];rfl)];obtain⟨bY,h1,q1,S1⟩:=b0p (l:=H.mr) (a:=(.ix (.v 0) (.i 1))) (p:=htP 1 3 4 5) (body:=b4W) (c:=b5 ct F (k+1)) mkD (λm=>ln (V0 m)) S0 (a3c (i:=1) S0 hT.symm rfl) A.mr (λx hx env h xs S hl=>b8x K dY hx S hl) (by rw[aa];ac_nf);rw[seq q1];obtain⟨env2,h2,q2,S2⟩:=a4R (c:=b5 ct F (k+1)) (C:=c0j) S1 (a0m (a:=(.ix (.v 0) (.i 2))) (l:=H.pt) ptD (λp=>ln (Y5 p)) (λp=>[some (.str p.n),some (.str p.s),some (spD p.a)]) (a3c (i:=2) S1 hT.symm rfl) (S1.pf.at A.pt) nofun (λx hx=>⟨rfl,λh=>⟨[],by rw[bc];exact b5s K dY hx⟩⟩)) (by simp only[au,aa];ac_nf);rw[seq q2];obtain⟨env3,h3,q3,S3⟩:=b0p (l:=H.ls) (a:=(.ix (.v 0) (.i 3))) (p:=htP 1 7 8 9) (body:=b4V) (c:=b5 ct F (k+1)) ltD (λm=>ln (N6 m)) S2 (a3c (i:=3) S2 hT.symm rfl) A.ls (λx hx env h xs S hl=>b3g K hx S hl) (by simp only[au,aa];ac_nf);rw[seq q3];obtain⟨env4,h4,q4,S4⟩:=a4R (ct:=ct) (c:=b5 ct F (k+1)) (C:=c0i) S3 (a0m (a:=(.ix (.v 0) (.i 4))) (l:=H.gp) .str (λp=>ln (a5X p)) (λp=>[some (.str p)]) (a3c (i:=4) S3 hT.symm rfl) (S3.pf.at A.gp) nofun (λx hx=>⟨rfl,λh=>⟨[],by rw[bc];exact c0H K hx⟩⟩)) (by simp only[au,aa];ac_nf);rw[seq q4];obtain⟨env5,h5,q5,S5⟩:=a4R (c:=b5 ct F (k+1)) (C:=c0h) S4 (a0m (a:=(.ix (.v 0) (.i 5))) (l:=H.cs) csD (λp=>ln (U2 p)) (λp=>[some (.str p.n),some (.tup (p.fs.map .str))]) (a3c (i:=5) S4 hT.symm rfl) (S4.pf.at A.cs) nofun (λx hx=>⟨rfl,λh=>b5u K hx⟩)) (by simp only[au,aa];ac_nf);rw[seq q5];obtain⟨env6,h6,q6,S6⟩:=a4R (c:=b5 ct F (k+1)) (C:=c0g) S5 (a0m (a:=(.ix (.v 0) (.i 6))) (l:=H.fe) feD (λp=>ln (a2q p)) (λp=>[some (.str p.1),some (.bl p.2)]) (a3c (i:=6) S5 hT.symm rfl) (S5.pf.at A.fe) nofun (λx hx=>⟨rfl,λh=>b8h K hx⟩)) (by simp only[au,aa];ac_nf);rw[seq q6];have B:=a0m (ct:=ct) (c:=b5 ct F (k+1)) (p:=.nm 0) (nb:=1) (fr:=[]) (e:=(.call 214 (.o (.v 0)))) (a:=(.ix (.v 0) (.i 7))) (l:=H.ru) ruD (λp=>ln (T0 p)) (λp=>[some (ruD p)]) (a3c (i:=7) S6 hT.symm rfl) (S6.pf.at A.ru) nofun (λx hx=>⟨rfl,λh=>⟨[],by have r:=a3r K hx;rw[bc];simp![b0J (k:=k) (h:=h) (r:=x) f214 (by have:=r.l;ac_nf) λw hw=>(r.w w hw).l]⟩⟩)
 obtain⟨n,e1,e3,e4,e5,e6,e7,e8,e9,rfl,p,l,g⟩:=S6;have C:EvL ct (b5 ct F (k+1)) (.bin .add (.v 2) c0f) [some T,e1,~~~n,e3,e4,e5,e6,e7,e8,e9] h6 ((M6 H).map ln):=by
  have e:(M6 H).map ln=((((((((H.sh.map λp=>ln (U1 p))++H.mr.map λp=>ln (V0 p))++H.pt.map λp=>ln (Y5 p))++H.ls.map λp=>ln (N6 p))++H.gp.map λp=>ln (a5X p))++H.cs.map λp=>ln (U2 p))++H.fe.map λp=>ln (a2q p))++H.ru.map λp=>ln (T0 p)):=by unfold M6;simp only[aq,aK];rfl
  rw[e];exact b2I rfl g B (by simp only[au,aa];ac_nf)
 obtain⟨t,z⟩:=a3M C (b6n K);rw[K4,a1i,z,d9,d9];exact b2m (p.app t) rfl
end
theorem b5T{s:Str}(h:a0I s):inD (.str s) [.str "above",.str "below"]=true:=by rcases h with rfl|rfl<;>decide
theorem a0o{a b c:Bool}(ha:a=false)(hb:b=true)(hc:c=false):due a b c=none:=by subst ha hb hc;rfl
theorem nin[DecidableEq α]{a:α}{l:List α}(h:a∉l):decide (a∈l)=false:=bA h
theorem S7(h:g9 z=true):↥z<=100000:=by have:=Z3 h;ac_nf
theorem a2h(xs:List Str):(xs.map D.str).all y7=true:=by rw[all_map];exact bp.mpr λ_ _=>rfl
theorem a2U(x:Str):∀xs:List Str,inD (.str x) (xs.map .str)=decide (x∈xs)
 |[]=>rfl
 |y::r=>by
  have ih:=a2U x r;unfold inD at ih⊢;rw[map_cons,any_cons,ih];show(decide (y=x)||decide (x∈r))=_
  by_cases e:y=x
  · subst e;simp
  · rw[bA e,Bool.false_or];exact decide_eq_decide.mpr ⟨λz=>.tail _ z,λz=>(aH.mp z).resolve_left λq=>e q.symm⟩
variable{r:R D}
section
variable{ct:CT}{F:Nat->Option Fn}(W:PF F)
include W
theorem b3k{k f:Nat}{i7:List D}(hw:h[w]? =some (.lst (.str x::i7)))(hr:b5 ct F k f [.ref n,.ref w] h=r)(hx:(x,f)∈[(("mark":Str),19),("gap",23)]):b5 ct F (k+1) 13 [.ref n,.ref w] h=r:=by
 rw[←hr,i6 W.f13 rfl];simp only[E6];rw[gc0];simp only[aH,not_mem_nil,or_false,Prod.mk.injEq] at hx;rcases hx with⟨rfl,rfl⟩|⟨rfl,rfl⟩
 · simp![v5 0 0 rfl hw rfl,op2,J4,eqS,decide_true,decide_false];generalize b5 ct F k 19 [.ref n,.ref w] h=r;cases r<;>simp![]
 · simp![v5 0 0 rfl hw rfl,op2,J4,eqS,decide_true,decide_false];generalize b5 ct F k 23 [.ref n,.ref w] h=r;cases r<;>simp![]
theorem HallAt.s5{H:HD}(A:HallAt h n H)(l:List Str):HallAt (h.set (n+5) (.lst (l.map .str))) n {H with gaps:=l}:=
 ⟨b9 nofun A.o,b9 nofun A.c1,b9 nofun A.c2,b9 nofun A.c3,b9 nofun A.c4,w6 A.c5,b9 nofun A.c6,b9 nofun A.c7,b9 nofun A.c8⟩
variable{d:Nat}{H:HD}
theorem b2d{p:Str×Nat}(hn:g9 p.1=true)(hw:p.2<99999)(h1:p.1∉H.shapes.map (·.1))(hl:↥H.shapes<60):Y2 ct F (d+9) H (U1 p) none {H with shapes:=H.shapes++[(p.1,.int (p.2:Int))]}:=by have:=b0v (ct:=ct) (d:=d) (H:=H) W hn (a3y (n:=p.2) nofun);rw[a0o (nin h1) rfl (bA nofun)] at this;exact this
theorem b5b{p:Str×Bool}(hn:g9 p.1=true)(h1:p.1∉H.features.map (·.1))(hl:↥H.features<10):Y2 ct F (d+9) H (a2q p) none {H with features:=H.features++[(p.1,.bl p.2)]}:=by have:=a7o (ct:=ct) (d:=d) (H:=H) (b:=a9E p.2) W hn (by cases p.2;exact .inr rfl;exact .inl rfl);rw[a0o (nin h1) rfl (bA nofun),show decide (a9E p.2="on")=p.2 by cases p.2<;>decide+kernel] at this;exact this
theorem a9T{l:Lt}(o:LtOk sh l)(hs:∀f∈l.fs,g9 f=true/\f∈H.shapes.map (·.1))(h1:l.n∉H.letters.map (·.1))(hl:↥H.letters<24):Y2 ct F (d+9) H (N6 l) none {H with letters:=H.letters++[(l.n,.tup [.str l.j,.str l.w,.tup (l.fs.map .str)])]}:=by intro h n w A hw;have:=a3d (ct:=ct) (k:=d+3) (i7:=l.fs) W A hw o.nm (S7 o.nm) o.jn o.wy (bp.mpr λf hf=>(hs f hf).1) (λy hy=>S7 (hs y hy).1) (by have:=o.few;ac_nf);rw[a0o (nin h1) (bp.mpr λf hf=>bf (hs f hf).2) (bA nofun)] at this;rw[a9n W hw,this];exact⟨_,rfl,(Fr.app n h _).trans (Fr.set nofun nofun),(A.app _).s4 _⟩
theorem b2f{c:Cs}(o:CsOk sh c)(hs:∀f∈c.fs,g9 f=true/\f∈H.shapes.map (·.1))(h1:c.n∉H.classes.map (·.1))(hl:↥H.classes<20):Y2 ct F (d+9) H (U2 c) none {H with classes:=H.classes++[(c.n,.tup (c.fs.map .str))]}:=by intro h n w A hw;have:=a4c (ct:=ct) (k:=d+3) (i7:=c.fs) W A hw o.nm (S7 o.nm) (bp.mpr λf hf=>(hs f hf).1) (λy hy=>S7 (hs y hy).1) o.few.1 o.few.2;rw[a0o (nin h1) (bp.mpr λf hf=>bf (hs f hf).2) (bA nofun)] at this;rw[b0t W hw,this];exact⟨_,rfl,(Fr.app n h _).trans (Fr.set nofun nofun),(A.app _).s6 _⟩
theorem b2e{p:Pt}(hn:g9 p.n=true)(hs:a0I p.s)(ha:a0u p.a)(h1:ptK p∉H.points.map (·.1))(h2:p.n∈H.shapes.map (·.1))(hl:↥H.points<=1000):Y2 ct F (d+9) H (Y5 p) none {H with points:=H.points++[(ptK p,spD p.a)]}:=by intro h n w A hw;have:=a4b (ct:=ct) (k:=d+2) W A hw hn (S7 hn) (b5T hs) (K1 ha.1) (K1 ha.2) nofun;have h1:(p.n,p.s)∉H.points.map (·.1):=h1;rw[a0o (bA h1) (bf h2) rfl] at this;rw[b0s W hw];exact this
theorem b7R{g:Str}(hn:g9 g=true)(h1:g∉H.gaps)(h2:g∈H.letters.map (·.1))(hl:↥H.gaps<=1000):Y2 ct F (d+9) H (a5X g) none {H with gaps:=H.gaps++[g]}:=by
 intro h n w A hw;have hw:h[w]? =some (.lst [.str "gap",.str g]):=hw;have hg:M8 false h (.str g) (.ref (n+5))=.ok (.bl false) h:=by simp only[M8,A.c5];rw[az (by rw[a2h];rfl),a2U,nin h1];rfl
 have e:b5 ct F (d+8) 23 [.ref n,.ref w] h=.ok .non (h.set (n+5) (.lst ((H.gaps++[g]).map .str))):=by rw[i6 W.f23 rfl];simp only[a1e];rw[gc0];simp![n9 hw,op2,a3w,eqS,v5 1 1 rfl hw rfl,G8 W (S7 hn),hn,A.fld5,A.fld4,hg,Y1 A.c4,bf h2,C8 W,a0o rfl rfl rfl,U8,Int.cast_ofNat_Int,decide_true,Bool.not_true,D3 A.c5,K0 (d:=.str g) A.c5 (by rw[aa];ac_nf)];rw[aq];rfl
 rw[b3k W hw e (.tail _ (.head _))];exact⟨_,rfl,Fr.set nofun nofun,HallAt.s5 W A _⟩
theorem b5a{m:Mk}(hn:g9 m.n=true)(hs:a0I m.s)(ha:a0u m.a)(hb:a0u m.b)(h1:m.n∉H.marks.map (·.1))(h2:m.n∈H.shapes.map (·.1))(hl:↥H.marks<=1000):Y2 ct F (d+9) H (V0 m) none {H with marks:=H.marks++[(m.n,.tup [.str m.s,spD m.a,spD m.b])]}:=by
 intro h n w A hw;have hf:b5 ct F (d+7) 18 [.ref w,.int 4] h=.ok (.bl true) h:=a1u (k:=d+2) (ws:=[num m.a.1,num m.a.2,num m.b.1,num m.b.2]) W hw hn (S7 hn) (b5T hs) rfl (by simp[a6g,K1 ha.1,K1 ha.2,K1 hb.1,K1 hb.2]) (λy hy=>by have:=(k7 (WOk.num ha.1) (k7 (WOk.num ha.2) (k7 (WOk.num hb.1) (k7 (WOk.num hb.2) Row.nil))) y hy).l;ac_nf) ⋯
 have e35:P9 ((V0 m).map .str) (some 3) (some 5)=[.str (num m.a.1),.str (num m.a.2)]:=W0 3 5 ((V0 m).map .str) ∅ (Nat.le_of_ble_eq_true rfl);have e57:P9 ((V0 m).map .str) (some 5) (some 7)=[.str (num m.b.1),.str (num m.b.2)]:=W0 5 7 ((V0 m).map .str) ∅ (Nat.le_of_ble_eq_true rfl);have A2:=(A.app [.lst [.str (num m.a.1),.str (num m.a.2)]]).app [.lst [.str (num m.b.1),.str (num m.b.2)]];have hw1:=b6 (g:=[.lst [.str (num m.a.1),.str (num m.a.2)]]) hw;have e:b5 ct F (d+8) 19 [.ref n,.ref w] h=.ok .non ((h++[Cell.lst [D.str (num m.a.1),D.str (num m.a.2)]]++[Cell.lst [D.str (num m.b.1),D.str (num m.b.2)]]).set (n+2) (Cell.dict (kd (H.marks++[(m.n,D.tup [.str m.s,spD m.a,spD m.b])])))):=by rw[i6 W.f19 rfl];simp only[a0f];rw[gc0];simp![hf,Bool.not_true,v5 1 1 rfl hw rfl,v5 2 2 rfl hw rfl,op2,A.fld2,Y1 A.c2,A.fld1,Y1 A.c1,C8 W,a0o (nin h1) (bf h2) rfl,U8,decide_true,K6 hw,e35,a5g W (b7 (h:=h)) (K1 ha.1) (K1 ha.2),K6 hw1,e57,a5g W (b7 (h:=h++[Cell.lst [.str (num m.a.1),.str (num m.a.2)]])) (K1 hb.1) (K1 hb.2),A2.fld2,V3 A2.c2 h1 (show _<16777216 by ac_nf)];rfl
 rw[b3k W hw e (.head _)];exact⟨_,rfl,((Fr.app n h _).trans (Fr.app n _ _)).trans (Fr.set nofun nofun),A2.s2 _⟩
theorem b1P{i:Str}(ho:Y3 sh cs i)(hs:∀f∈sh.map (·.1),g9 f=true/\f∈H.shapes.map (·.1))(hc:∀c∈cs,g9 c.n=true/\c.n∈H.classes.map (·.1)):U5 i=true/\N1 H i=true/\↥i<=100000:=by
 rcases ho with ho|⟨c,hm,rfl⟩
 · have k:=hs i ho;unfold U5 N1;rw[a8x W k.1,k.1,aA bt];exact⟨rfl,bf k.2,S7 k.1⟩
 · have k:=hc c hm;have hd:cd (("@":Str)++c.n)=64::cd c.n:=by rw[E3];rfl
   have ht:tl (("@":Str)++c.n)=c.n:=U9 (by rw[a3P,hd];rfl);have hk:O3 (("@":Str)++c.n)=true:=by unfold O3;rw[ht,k.1,hd];rfl
   have:=(WOk.at k.1).l;unfold U5 N1;rw[hk,Bool.or_true,az rfl,ht];exact⟨rfl,bf k.2,by ac_nf⟩
theorem b4Z{r:Ru}(o:RuOk sh cs fe r)(hs:∀f∈sh.map (·.1),g9 f=true/\f∈H.shapes.map (·.1))(hc:∀c∈cs,g9 c.n=true/\c.n∈H.classes.map (·.1))(hf:g9 r.f=true/\r.f∈H.features.map (·.1))(h1:r.t∉H.rules.map (·.1))(hl:↥H.rules<30):Y2 ct F (d+9) H (T0 r) none {H with rules:=H.rules++[(r.t,[.str r.f,.tup (r.b.map .str),.tup (r.c.map .str),.tup (r.a.map .str),.tup (r.o.map .str)])]}:=by
 intro h n w A hw;have hi:∀i∈r.b++r.c++r.a,U5 i=true/\N1 H i=true/\↥i<=100000:=λi hi=>by
  rcases aN.mp hi with hi|hi
  · rcases aN.mp hi with hi|hi
    · exact b1P W (o.b i hi) hs hc
    · exact b1P W (o.c i hi) hs hc
  · exact b1P W (o.a i hi) hs hc
 have ho:∀i∈r.o,g9 i=true/\i∈H.shapes.map (·.1):=λi hi=>hs i (o.o i hi);have rf:RuleForm r.t r.f r.b r.c r.a r.o:=⟨o.nm,hf.1,o.b3,o.c4.1,o.c4.2,o.a3,o.o3.1,o.o3.2,bp.mpr λi h=>(hi i h).1,bp.mpr λi h=>(ho i h).1,λy hy=>by
  rcases aH.mp hy with rfl|hy
  · exact S7 o.nm
  · rcases aH.mp hy with rfl|hy
    · exact S7 hf.1
    · rcases aN.mp hy with hy|hy
      · exact(hi y hy).2.2
      · exact S7 (ho y hy).1⟩
 have:=a4S (ct:=ct) (k:=d+1) W A nofun (x:="rule") (t:=r.t) (f:=r.f) (bK:=r.b) (bH:=r.c) (bO:=r.a) (bJ:=r.o) hw rf;rw[a0o (nin h1) (by rw[bf hf.2,bp.mpr λi h=>(hi i h).2.1,bp.mpr λi h=>bf (ho i h).2];rfl) (bA nofun)] at this
 rw[b3D W hw];exact this
end
theorem J3{ct:CT}{F:Nat->Option Fn}{d:Nat}{α:Type}{dA:List α}{i7:List Str}{H':HD}(wf:α->List Str)(U:List α->HD)(hR:∀x∈dA,Row (wf x))(dN:∀pre x post,dA=pre++x::post->Y2 ct F d (U pre) (wf x) none (U (pre++[x])))(hT:Reads ct F d (U dA) i7 H'):∀(l pre:List α),dA=pre++l->Reads ct F d (U pre) (l.map (λx=>ln (wf x))++i7) H'
 |[],pre,e=>by rw[bc] at e;subst e;exact hT
 |x::l,pre,e=>by have r:=hR x (by rw[e];exact mem_append_right _ (.head _));have b:=b0L r;have:=a8s r;refine .take (H1:=U (pre++[x])) (show(ln (wf x)).length<=100000 by ac_nf) (by rw[b];exact r.n) (by rw[b];exact dN pre x l e) (J3 wf U hR dN hT l (pre++[x]) (by rw[e];simp))
theorem L5{f:α->β}{dA pre post:List α}{x:α}(h:(dA.map f).Nodup)(e:dA=pre++x::post):f x∉pre.map f:=λm=>by rw[e,aq,map_cons] at h;exact(nodup_append.mp h).2.2 _ m _ (.head _) rfl
theorem L0{dA pre post:List α}{x:α}(e:dA=pre++x::post):↥pre<↥dA/\x∈dA:=by rw[e];exact⟨by simp only[au,length_cons];ac_nf,mem_append_right _ (.head _)⟩
noncomputable def hS(H:HL):List (Str×D):=H.sh.map λp=>(p.1,.int (p.2:Int))
def hM(l:List Mk):List (Str×D):=l.map λm=>(m.n,.tup [.str m.s,spD m.a,spD m.b])
def hP(l:List Pt):List ((Str×Str)×D):=l.map λp=>(ptK p,spD p.a)
noncomputable def hL(l:List Lt):List (Str×D):=l.map λl=>(l.n,.tup [.str l.j,.str l.w,.tup (l.fs.map .str)])
noncomputable def hC(l:List Cs):List (Str×D):=l.map λc=>(c.n,.tup (c.fs.map .str))
noncomputable def hF(l:List (Str×Bool)):List (Str×D):=l.map λp=>(p.1,.bl p.2)
noncomputable def hR(l:List Ru):List (Str×List D):=l.map λr=>(r.t,[.str r.f,.tup (r.b.map .str),.tup (r.c.map .str),.tup (r.a.map .str),.tup (r.o.map .str)])
def M4(H:HL):HD:=⟨hS H,hM H.mr,hP H.pt,hL H.ls,H.gp,hC H.cs,hF H.fe,hR H.ru⟩
theorem a2d(k:α->Str)(v:α->β)(l:List α):(l.map λx=>(k x,v x)).map (·.1)=l.map k:=by rw[aK];rfl
theorem snoc(f:α->β)(l:List α)(x:α):(l++[x]).map f=l.map f++[f x]:=by rw[aq];rfl
theorem a6J{H:HL}(K:HLok H)(h:f∈H.sh.map (·.1)):g9 f=true/\f∈(hS H).map (·.1):=⟨N9 K h,by unfold hS;rw[a2d];exact h⟩
theorem a9v{ct:CT}{F:Nat->Option Fn}(W:PF F){d:Nat}{H:HL}(K:HLok H):Reads ct F (d+9) {} ((M6 H).map ln) (M4 H):=by
 have e:(M6 H).map ln=H.sh.map (λp=>ln (U1 p))++(H.mr.map (λp=>ln (V0 p))++(H.pt.map (λp=>ln (Y5 p))++(H.ls.map (λp=>ln (N6 p))++(H.gp.map (λp=>ln (a5X p))++(H.cs.map (λp=>ln (U2 p))++(H.fe.map (λp=>ln (a2q p))++(H.ru.map (λp=>ln (T0 p))++[]))))))):=by unfold M6;simp only[aq,aK,aB,bc];rfl
 rw[e];refine J3 U1 (λl=>{shapes:=l.map λp=>(p.1,.int (p.2:Int))}) (λx hx=>a4q K hx) (λpre x post q=>?_) ?_ H.sh [] rfl
 · obtain⟨q1,q2⟩:=L0 q;have k:=K.sh.ok x q2;have:=K.sh.hi;have g:=b2d (ct:=ct) (d:=d) (H:={shapes:=pre.map λp=>(p.1,.int (p.2:Int))}) (p:=x) W k.1 k.2 (by rw[a2d];exact L5 (f:=λp=>p.1) K.sh.nd q) (by rw[aa];ac_nf);simp only[snoc];exact g
 refine J3 V0 (λl=>{shapes:=hS H,marks:=hM l}) (λx hx=>a6o K hx) (λpre x post q=>?_) ?_ H.mr [] rfl
 · obtain⟨q1,q2⟩:=L0 q;obtain⟨k1,k2,k3⟩:=K.mko x q2;have hn:=a6J K (a5m K q2);have b:=a8i K K.mr;rw[aa] at b;have:=K.sh.hi;have g:=b5a (ct:=ct) (d:=d) (H:={shapes:=hS H,marks:=hM pre}) (m:=x) W hn.1 k1 k2 k3 (by unfold hM;rw[a2d];exact L5 (f:=λm:Mk=>m.n) (K.mr.nodup K.sh.nd) q) hn.2 (by unfold hM;rw[aa];ac_nf);unfold hM at g⊢;rw[snoc];exact g
 refine J3 Y5 (λl=>{shapes:=hS H,marks:=hM H.mr,points:=hP l}) (λx hx=>a4r K hx) (λpre x post q=>?_) ?_ H.pt [] rfl
 · obtain⟨q1,q2⟩:=L0 q;obtain⟨k1,k2,k3⟩:=K.pto x q2;have hn:=a6J K k1;have:=K.ptl;have g:=b2e (ct:=ct) (d:=d) (H:={shapes:=hS H,marks:=hM H.mr,points:=hP pre}) (p:=x) W hn.1 k2 k3 (by unfold hP;rw[aK];exact L5 (f:=ptK) K.pt q) hn.2 (by unfold hP;rw[aa];ac_nf);unfold hP at g⊢;rw[snoc];exact g
 refine J3 N6 (λl=>{shapes:=hS H,marks:=hM H.mr,points:=hP H.pt,letters:=hL l}) (λx hx=>a0T K hx) (λpre x post q=>?_) ?_ H.ls [] rfl
 · obtain⟨q1,q2⟩:=L0 q;have k:=K.lso x q2;have:=K.ls;have g:=a9T (ct:=ct) (d:=d) (H:={shapes:=hS H,marks:=hM H.mr,points:=hP H.pt,letters:=hL pre}) (l:=x) W k (λf hf=>a6J K (k.fs f hf)) (by unfold hL;rw[a2d];exact L5 (f:=λm:Lt=>m.n) K.lsn q) (by unfold hL;rw[aa];ac_nf);unfold hL at g⊢;rw[snoc];exact g
 refine J3 a5X (λl=>{shapes:=hS H,marks:=hM H.mr,points:=hP H.pt,letters:=hL H.ls,gaps:=l}) (λx hx=>a8t K hx) (λpre x post q=>?_) ?_ H.gp [] rfl
 · obtain⟨q1,q2⟩:=L0 q;have:=K.gp.length_le;rw[aa] at this;have:=K.ls;have nd:=L5 (f:=id) (by rw[map_id];exact K.gp.nodup K.lsn) q;rw[map_id] at nd;exact b7R (d:=d) (H:={shapes:=hS H,marks:=hM H.mr,points:=hP H.pt,letters:=hL H.ls,gaps:=pre}) (g:=x) W (a5A K q2) nd (by unfold hL;rw[a2d];exact K.gp.subset q2) (show ↥pre<=1000 by ac_nf)
 refine J3 U2 (λl=>{shapes:=hS H,marks:=hM H.mr,points:=hP H.pt,letters:=hL H.ls,gaps:=H.gp,classes:=hC l}) (λx hx=>a1W K hx) (λpre x post q=>?_) ?_ H.cs [] rfl
 · obtain⟨q1,q2⟩:=L0 q;have k:=K.cso x q2;have:=K.cs;have g:=b2f (ct:=ct) (d:=d) (H:={shapes:=hS H,marks:=hM H.mr,points:=hP H.pt,letters:=hL H.ls,gaps:=H.gp,classes:=hC pre}) (c:=x) W k (λf hf=>a6J K (k.fs f hf)) (by unfold hC;rw[a2d];exact L5 (f:=λm:Cs=>m.n) K.csn q) (by unfold hC;rw[aa];ac_nf);unfold hC at g⊢;rw[snoc];exact g
 refine J3 a2q (λl=>{shapes:=hS H,marks:=hM H.mr,points:=hP H.pt,letters:=hL H.ls,gaps:=H.gp,classes:=hC H.cs,features:=hF l}) (λx hx=>a6p K hx) (λpre x post q=>?_) ?_ H.fe [] rfl
 · obtain⟨q1,q2⟩:=L0 q;have:=K.fe;have g:=b5b (ct:=ct) (d:=d) (H:={shapes:=hS H,marks:=hM H.mr,points:=hP H.pt,letters:=hL H.ls,gaps:=H.gp,classes:=hC H.cs,features:=hF pre}) (p:=x) W (a1J K (ao.mpr ⟨x,q2,rfl⟩)) (by unfold hF;rw[a2d];exact L5 (f:=λp=>p.1) K.fen.nd q) (by unfold hF;rw[aa];ac_nf);unfold hF at g⊢;rw[snoc];exact g
 refine J3 T0 (λl=>{shapes:=hS H,marks:=hM H.mr,points:=hP H.pt,letters:=hL H.ls,gaps:=H.gp,classes:=hC H.cs,features:=hF H.fe,rules:=hR l}) (λx hx=>a3r K hx) (λpre x post q=>?_) (.nil _) H.ru [] rfl;obtain⟨q1,q2⟩:=L0 q;have k:=K.ruo x q2;have:=K.rul;have g:=b4Z (ct:=ct) (d:=d) (H:={shapes:=hS H,marks:=hM H.mr,points:=hP H.pt,letters:=hL H.ls,gaps:=H.gp,classes:=hC H.cs,features:=hF H.fe,rules:=hR pre}) (r:=x) W k (λf hf=>a6J K hf) (λc hc=>⟨(K.cso c hc).nm,by unfold hC;rw[a2d];exact ao.mpr ⟨c,hc,rfl⟩⟩) ⟨a1J K k.fe,by unfold hF;rw[a2d];exact k.fe⟩ (by unfold hR;rw[a2d];exact L5 (f:=λm:Ru=>m.t) K.run q) (by unfold hR;rw[aa];ac_nf);unfold hR at g⊢;rw[snoc];exact g
open PySem
def nc(s:Str):Bool:=decide (s≠"clear")
noncomputable def bb(s:Str):Bool:=decide (s="both")||decide (s="back")
noncomputable def a2E(js:List Str)(i:Nat):Bool:=nc (js.getD i "clear")
def b8(js:List Str):List Nat:=(List.range ↥js).filter (a2E js)
def jnx(x y:Str):Bool:=decide (x="both")&&bb y
def G4(js:List Str):List (Nat×Nat):=((b8 js).zip ((b8 js).drop 1)).filter λp=>jnx (js.getD p.1 "") (js.getD p.2 "")
variable{js:List Str}
theorem a6i{i:Nat}:i∈b8 js↔∃h:i<↥js,nc js[i]=true:=by
 unfold b8;rw[bm,aQ];refine⟨λ⟨h,e⟩=>⟨h,?_⟩,λ⟨h,e⟩=>⟨h,?_⟩⟩
 · unfold a2E at e
   rwa [bx,ai h] at e
 · unfold a2E;rw[bx,ai h];exact e
theorem b3U(js:List Str):(b8 js).Pairwise (· < ·):=List.Pairwise.filter _ List.pairwise_lt_range
theorem b1x{l:List (Str×D)}{k:Str}(e:h[n]? =some (.dict (kd l))):M8 true h (.str k) (.ref n)=.ok (.bl (!decide (k∈l.map (·.1)))) h:=by simp only[M8,e,a0C,if_true,a7M];simp
theorem a8l{c:Cell}:(h++[c]).set ↥h c'=h++[c']:=by rw[List.set_append_right _ _ (aj _),Nat.sub_self];rfl
theorem a9c(hl:↥xs<1000000):mtD .append (h++[.lst xs]) (.ref ↥h) [d]=.ok .non (h++[.lst (xs++[d])]):=by rw[K0 b7 hl,a8l]
theorem b8z{xs:List α}{d:α}(hd:xs[↥xs-1]? =some d):atI xs (-1)=some d:=by
 have hl:=(ac.mp hd).1;unfold atI;have e:ixN ↥xs (-1)=some (↥xs-1):=by unfold ixN;rw[aA nofun,az nofun];congr 1;ac_nf
 rw[e];exact hd
theorem a6a(hd:xs[↥xs-1]? =some d):ixD h (.tup xs) (.int (-1))=.ok d h:=by simp only[ixD,b8z hd]
theorem a1j:op2 .eq h (.str x) (.str y)=.ok (.bl (decide (x=y))) h:=rfl
theorem b9N:op2 .ne h (.str x) (.str y)=.ok (.bl (!decide (x=y))) h:=rfl
theorem rd_of(e:h[n]? =some (.lst l)):rdL h n=some l:=by unfold rdL;rw[e]
noncomputable def A8(ls:List Lt)(x:Str):Lt:=(ls.find? λl=>decide (l.n=x)).getD ⟨x,"","",[]⟩
theorem a8B{x:Str}:∀{ls:List Lt},x∈ls.map (·.n)->A8 ls x∈ls
 |[],h=>absurd h ⋯
 |l::r,h=>by
  unfold A8;rw[List.find?_cons]
  by_cases e:l.n=x
  · simp[e]
  · simp only[e,decide_false];rw[map_cons] at h;exact .tail _ (a8B ((aH.mp h).resolve_left λz=>e z.symm))
theorem b2k{x:Str}(f:Lt->D):∀{ls:List Lt},x∈ls.map (·.n)->o0 (kd (ls.map λl=>(l.n,f l))) (.str x)=some (f (A8 ls x))
 |[],h=>absurd h ⋯
 | l ::r,h=>by
  by_cases e:l.n=x
  · unfold o0 kd A8;rw[map_cons,map_cons,List.find?_cons,List.find?_cons];simp[e]
  · have ih:=b2k f (ls:=r) (by rw[map_cons] at h;exact(aH.mp h).resolve_left λz=>e z.symm)
    have e':¬(D.str l.n=D.str x):=λz=>e (by injection z);unfold o0 kd A8 at ih⊢;rw[map_cons,map_cons,List.find?_cons,List.find?_cons];simp only[e',e,decide_false];exact ih
theorem a8E(f:Lt->D)(e:h[n]? =some (.dict (kd (ls.map λl=>(l.n,f l)))))(hx:x∈ls.map (·.n)):ixD h (.ref n) (.str x)=.ok (f (A8 ls x)) h:=by have k:D6 (.str x) (kd (ls.map λl=>(l.n,f l)))=true:=a0C _ _;simp only[ixD,e,k,if_true,b2k f hx]
def c9(ls:List Lt)(row:List Str):List Str:=row.map λx=>(A8 ls x).j
variable{bF:List (D×D)}
theorem b0R{k v x:D}:x∈(a0V bF k v).map (·.1)↔x∈bF.map (·.1)∨x=k:=by
 unfold a0V
 by_cases e:(bF.any λp=>decide (p.1=k))=true
 · rw[az e];obtain⟨p,hp,e2⟩:=bq.mp e;have e2:=ax e2;have:(bF.map λp=>if p.1=k then(p.1,v) else p).map (·.1)=bF.map (·.1):=by rw[aK];refine aZ λp _=>?_;show(if p.1=k then(p.1,v) else p).1=p.1;split<;>rfl
   rw[this];refine⟨.inl,λh=>h.elim id λh=>?_⟩;rw[h,←e2];exact ao.mpr ⟨p,hp,rfl⟩
 · rw[aA e];simp
theorem a4C{x:D}:∀(l bF:List (D×D)),x∈(l.foldl (λa p=>a0V a p.1 p.2) bF).map (·.1)↔x∈bF.map (·.1)∨x∈l.map (·.1)
 |[],bF=>by simp
 |p::r,bF=>by rw[foldl_cons,a4C r,b0R,map_cons,aH,or_assoc]
def dI(l:List Nat):List (D×D):=(l.map λi:Nat=>(D.int (i:Int),D.bl true)).foldl (λa p=>a0V a p.1 p.2) []
theorem a5I{l:List Nat}{x:D}:x∈(dI l).map (·.1)↔∃i∈l,x=.int ((i:Nat):Int):=by unfold dI;rw[a4C,aK];simp only[map_nil,not_mem_nil,false_or,ao,Function.comp];exact⟨λ⟨i,h,e⟩=>⟨i,h,e.symm⟩,λ⟨i,h,e⟩=>⟨i,h,e.symm⟩⟩
theorem b6a{k:Nat}{l:List Nat}(e:h[n]? =some (.dict (dI l))):op2 .isin h ⇑k (.ref n)=.ok (.bl (decide (k∈l))) h:=by
 have ko:D6 ⇑k (dI l)=true:=by unfold D6;rw[ae];refine⟨rfl,bp.mpr λp hp=>?_⟩;obtain⟨i,_,e⟩:=a5I.mp (ao.mpr ⟨p,hp,rfl⟩);rw[e];rfl
 have gs:(o0 (dI l) ⇑k).isSome=decide (k∈l):=by
  unfold o0;rw[Option.isSome_map]
  by_cases m:k∈l
  · rw[bf m,List.find?_isSome];obtain⟨p,hp,e⟩:=ao.mp (a5I.mpr ⟨k,m,rfl⟩);exact⟨p,hp,bf e⟩
  · rw[bA m];cases q:(dI l).find? λp=>decide (p.1=.int (k:Int)) with
    |none=>rfl
    |some p=>
     have:=ax (List.find?_some (p:=λp:D×D=>decide (p.1=.int (k:Int))) q);obtain⟨i,hi,e⟩:=a5I.mp (ao.mpr ⟨p,List.mem_of_find?_eq_some q,rfl⟩);rw[this] at e;injection e with e;exact absurd (by rw[Int.ofNat.inj e];exact hi) m
 show M8 false h ⇑k (.ref n)=_;simp only[M8,e,ko,if_true,gs];cases decide (k∈l)<;>rfl
theorem b1c:∀l:List Nat,a9y (l.map λi:Nat=>D.tup [.int (i:Int),.bl true])=some (l.map λi:Nat=>(D.int (i:Int),D.bl true))
 |[]=>rfl
 |x::r=>by rw[map_cons,a9y,az (show(K7 (D.int (x:Int))).isSome=true from rfl),b1c r];rfl
theorem b5w{l:List Nat}:biD .dict (h++[.lst (l.map λi:Nat=>D.tup [.int (i:Int),.bl true])]) [.ref ↥h]=.ok (.ref ↥(h++[Cell.lst (l.map λi:Nat=>D.tup [.int (i:Int),.bl true])])) (h++[.lst (l.map λi:Nat=>D.tup [.int (i:Int),.bl true])]++[.dict (dI l)]):=by simp only[biD,bi1,biL,b7,a1x,b1c,v8];rfl
theorem a7T(js:List Str):u5 0 (js.map .str)=(List.range ↥js).map λi:Nat=>D.tup [.int (i:Int),.str (js.getD i "clear")]:=by
 refine ext_getElem? λi=>?_
 by_cases hi:i<↥js
 · rw[ak,aM hi];have:i<↥(u5 0 (js.map .str)):=by rw[P0,aa];exact hi
   obtain⟨d,h1,h2⟩:=T7 (ai this);rw[ai this,h2];rw[ak,ai hi] at h1;rw[←ay h1,aC,Option.map_some,bx,ai hi];rfl
 · rw[aY (by rw[P0,aa];ac_nf),aY (by simp;ac_nf)]
noncomputable def prD(p:Nat×Nat):D:=.tup [.int (p.1:Int),.int (p.2:Int)]
theorem a8f:∀a b:List Nat,Q8 (a.map λi:Nat=>D.int (i:Int)) (b.map λi:Nat=>D.int (i:Int))=(a.zip b).map prD
 |[],_=>by simp[Q8]
 |_::_,[]=>by simp[Q8]
 |x::a,y::b=>by rw[map_cons,map_cons,Q8,a8f a b];rfl
theorem c0P:P9 xs (some 1) none=xs.drop 1:=by
 unfold P9;rw[HT.b0G,show HT.sIx xs.length 0 (some 1)=min 1 xs.length from HT.b3W _ _ 1];cases xs with
 |nil=>rfl
 |cons x r=>
  rw[bg ⋯];exact bj ⋯
theorem b6j(y:Str):inD (.str y) [.str "both",.str "back"]=bb y:=by
 unfold inD bb;simp only[any_cons,List.any_nil,eqF,Bool.or_false]
 by_cases a:y="both"
 · subst a;decide
 · by_cases b:y="back"
   · subst b;decide
   · rw[bA a,bA b,beq_eq_false_iff_ne.mpr (Ne.symm a),beq_eq_false_iff_ne.mpr (Ne.symm b)]
noncomputable def N2(fs:List Str)(p q:Bool):Str:=if p&&q then fs.getD 2 "" else if q then fs.getD 1 "" else if p then fs.getD (↥fs-1) "" else fs.getD 0 ""
theorem a4A{fs:List Str}{i:Nat}(hi:i<↥fs):ixD h (.tup (fs.map .str)) ⇑i=.ok (.str (fs.getD i "")) h:=ix_tup (by rw[ak,ai hi,bx,ai hi];rfl)
variable{row:List Str}
section
variable{ct:CT}{F:Nat->Option Fn}
theorem b1I{k:Nat}(hF:F 36=some C9):b5 ct F (k+1) 36 [.str x,.str y] h=.ok (.bl (jnx x y)) h:=by
 rw[i6 hF rfl];simp only[C9];have:(y7 (.str y)=true/\[D.str "both",.str "back"].all y7=true)=True:=eq_true ⟨rfl,rfl⟩;unfold jnx;cases e:decide (x="both") with
 |false=>
  simp![a1j,e];exact u8 rfl
 |true=>
  simp![a1j,e,this,b6j];rw[show(bb y !=false)=(true&&bb y) by cases bb y<;>rfl];exact u8 rfl
theorem b3i{k:Nat}{fs:List Str}{p q:Bool}(hF:F 37=some E7)(h1:1<=↥fs)(hq:q=true->↥fs=4):b5 ct F (k+1) 37 [.tup (fs.map .str),.bl p,.bl q] h=.ok (.str (N2 fs p q)) h:=by
 rw[i6 hF rfl];simp only[E7];have l0:=a4A (i:=0) (h:=h) h1;have ll:ixD h (.tup (fs.map .str)) (.int (-1))=.ok (.str (fs.getD (↥fs-1) "")) h:=a6a (by rw[aa,ak,ai nofun,bx,ai nofun];rfl)
 cases q with
 | false=>cases p with
  |false=>
   simp![show ixD h (.tup (fs.map .str)) (.int 0)=.ok (.str (fs.getD 0 "")) h from l0];exact u8 rfl
  |true=>
   simp![ll];exact u8 rfl
 | true=>
  have h4:=hq rfl;have l1:=a4A (fs:=fs) (i:=1) (h:=h) nofun;have l2:=a4A (fs:=fs) (i:=2) (h:=h) nofun;cases p with
  |false=>
   simp![show ixD h (.tup (fs.map .str)) (.int 1)=.ok (.str (fs.getD 1 "")) h from l1];exact u8 rfl
  |true=>
   simp![show ixD h (.tup (fs.map .str)) (.int 2)=.ok (.str (fs.getD 2 "")) h from l2];exact u8 rfl
theorem b1q{k:Nat}(f36:F 36=some C9)(hF:F 35=some C0)(hj:h[j]? =some (.lst (js.map .str)))(hl:↥js<=1000):b5 ct F (k+2) 35 [.ref j] h=.ok (.ref ↥h) (h++[.lst ((G4 js).map prD)]):=by
 rw[i6 hF rfl];simp only[C0];show gcR 2 h (a4e (exs ct (b5 ct F (k+1)) _ [~~~j,none] h))=_;have c1:ev ct (b5 ct F (k+1)) (.comp (.tp (.nm 0>=>.nm 1>=>.nil)) (.enum (.v 0)) 2 [] (.cmp .ne (.v 1) (.s "clear")) (.v 0)) [~~~j,none] h=.ok (.ref ↥h) (h++[.lst ((b8 js).map λi:Nat=>D.int (i:Int))]):=by
  rw[J0 (l:=(List.range ↥js).map λi:Nat=>D.tup [.int (i:Int),.str (js.getD i "clear")]) (g:=[(j,.lst (js.map .str))]) (h1:=h) (by simp![T8,hj];rw[a7T]) (by simp only[gOk,all_cons,all_nil,hj];simp) (λx=>match x with
   |.tup [_,.str s]=>nc s
   |_=>false) (λx=>match x with
   |.tup [a,_]=>a
   |_=>.non) (λx=>match x with
   |.tup [a,b]=>[some a,some b]
   |_=>[]) (λx hx=>by
   obtain⟨i,hi,rfl⟩:=ao.mp hx;refine⟨rfl,?_,λ_=>by simp![]⟩;simp![b9N];unfold nc;rw[decide_not]) (by rw[aa,aL];show _<=16777216;ac_nf)]
  congr 3;rw[filter_map,aK];rfl
 rw[seq (bI:=[~~~j,~~~↥h]) (h':=h++[.lst ((b8 js).map λi:Nat=>D.int (i:Int))]) (by rw[a0l,c1,d9];simp![])];have sl:∀i∈b8 js,i<↥js:=λi hi=>(a6i.mp hi).1;have ln:↥(b8 js)<=1000:=by have:=bw (a2E js) (List.range ↥js);rw[aL] at this;unfold b8;ac_nf
 have aS:(h++[Cell.lst ((b8 js).map λi:Nat=>D.int (i:Int))])[↥h]? =some (.lst ((b8 js).map λi:Nat=>D.int (i:Int))):=b7;have j1:=b6 (g:=[Cell.lst ((b8 js).map λi:Nat=>D.int (i:Int))]) hj;have P1:Pf h (h++[Cell.lst ((b8 js).map λi:Nat=>D.int (i:Int))]):=(Pf.refl h).app _;have pe:G4 js=((b8 js).zip ((b8 js).drop 1)).filter λp=>jnx (js.getD p.1 "") (js.getD p.2 ""):=rfl;generalize hs:b8 js=S at aS j1 P1 sl ln pe;generalize hx:h++[Cell.lst (S.map λi:Nat=>D.int (i:Int))]=x1 at aS j1 P1;have s1:slD x1 (some 1) none (.ref ↥h)=.ok (.ref ↥x1) (x1++[.lst ((S.drop 1).map λi:Nat=>D.int (i:Int))]):=by rw[K6 aS,c0P,map_drop]
 have a2:=b6 (g:=[Cell.lst ((S.drop 1).map λi:Nat=>D.int (i:Int))]) aS;have j2:=b6 (g:=[Cell.lst ((S.drop 1).map λi:Nat=>D.int (i:Int))]) j1;have b2:(x1++[Cell.lst ((S.drop 1).map λi:Nat=>D.int (i:Int))])[↥x1]? =some (.lst ((S.drop 1).map λi:Nat=>D.int (i:Int))):=b7;have P2:=P1.app [Cell.lst ((S.drop 1).map λi:Nat=>D.int (i:Int))];generalize x1++[Cell.lst ((S.drop 1).map λi:Nat=>D.int (i:Int))]=x2 at a2 b2 j2 s1 P2;have zi:a5T x2 (.ref ↥h) (.ref ↥x1)=.ok ((S.zip (S.drop 1)).map prD,[(↥h,.lst (S.map λi:Nat=>D.int (i:Int))),(↥x1,.lst ((S.drop 1).map λi:Nat=>D.int (i:Int)))]) x2:=by
  have e1:Z8 x2 ↥h=some (S.map λi:Nat=>D.int (i:Int),.lst (S.map λi:Nat=>D.int (i:Int))):=by unfold Z8;rw[a2]
  have e2:Z8 x2 ↥x1=some ((S.drop 1).map λi:Nat=>D.int (i:Int),.lst ((S.drop 1).map λi:Nat=>D.int (i:Int))):=by unfold Z8;rw[b2]
  simp only[a5T,e1,e2,a8f]
 have jx:∀i,i<↥js->ixD x2 (.ref j) ⇑i=.ok (.str (js.getD i "")) x2:=λi hi=>r8 j2 (by rw[ak,ai hi,bx,ai hi];rfl)
 have c2:ev ct (b5 ct F (k+1)) (.comp (.nm 0) (.zipn (.v 1) (.sl (.v 1) (.at (.i 1)) .no)) 1 [0] (.val (.call 36 (.ix (.v 1) (.ix (.v 0) (.i 0))>=>.o (.ix (.v 1) (.ix (.v 0) (.i 1)))))) (.v 0)) [~~~j,~~~↥h] x1=.ok (.ref ↥x2) (x2++[.lst ((G4 js).map prD)]):=by
  rw[J0 (l:=(S.zip (S.drop 1)).map prD) (g:=[(↥h,.lst (S.map λi:Nat=>D.int (i:Int))),(↥x1,.lst ((S.drop 1).map λi:Nat=>D.int (i:Int)))]) (h1:=x2) (by simp![b2J,s1,zi]) (by simp only[gOk,all_cons,all_nil,a2,b2];simp) (λx=>match x with
   |.tup [.int a,.int b]=>jnx (js.getD a.toNat "") (js.getD b.toNat "")
   |_=>false) (λx=>x) (λx=>[some x,~~~j]) (λx hx=>by
   obtain⟨⟨a,b⟩,hp,rfl⟩:=ao.mp hx;obtain⟨ha,hb⟩:=of_mem_zip hp;have hb:=List.mem_of_mem_drop hb;have i0:ixD x2 (prD (a,b)) (.int 0)=.ok ⇑a x2:=ix_tup (i:=0) rfl;have i1:ixD x2 (prD (a,b)) (.int 1)=.ok ⇑b x2:=ix_tup (i:=1) rfl;refine⟨rfl,?_,λ_=>by simp![]⟩;simp![i0,i1,jx a (sl a ha),jx b (sl b hb),b1I f36];rfl) (by rw[aa,length_zip];show _<=16777216;ac_nf)]
  rw[List.map_id',filter_map,pe];rfl
 rw[K4,a1i,c2,d9,d9];exact a2G (P2.app _) b7 P2.len (D7 λd hd=>by obtain⟨p,_,rfl⟩:=ao.mp hd;rfl)
theorem b2Y{k r:Nat}{H:HL}(hF:F 33=some B6)(A:HallAt h n (M4 H))(hr:h[r]? =some (.lst (row.map .str)))(cP:∀x∈row,x∈H.ls.map (·.n)):b5 ct F (k+1) 33 [.ref n,.ref r] h=.ok .non h:=by
 have k4:(hL H.ls).map (·.1)=H.ls.map (·.n):=a2d _ _ _;rw[i6 hF rfl];simp only[B6];obtain⟨bI,g',e1,e2,e3,rfl,rfl⟩:=A9 (g:=[(r,.lst (row.map .str))]) (p:=.tp (.nm 2>=>.nm 3>=>.nil)) (body:=exs ct (b5 ct F k) (.o (.iff (.cmp .notin (.v 3) (.fld (.v 0) "letters")) (.o .bad) .nil))) (λj env hh=>∃e2 e3,env=[~~~n,~~~r,e2,e3]/\hh=h) (λj env hh hP=>by
  obtain⟨_,_,_,rfl⟩:=hP;simp only[gOk,all_cons,all_nil,hr];simp) (u5 0 (row.map .str)) 0 [~~~n,~~~r,none,none] h (λj x env hh hx hP=>by
  obtain⟨e2,e3,rfl,rfl⟩:=hP;obtain⟨y,hy,rfl⟩:=T7 hx;rw[ak] at hy;obtain⟨z,hz,rfl⟩:=Option.map_eq_some_iff.mp hy;have hm:=cP z (aI hz);refine⟨_,[~~~n,~~~r,some ⇑(0+j),some (.str z)],_,rfl,?_,_,_,rfl,rfl⟩;have ni:M8 true hh (.str z) (.ref (n+4))=.ok (.bl false) hh:=by rw[b1x A.c4,show(M4 H).letters=hL H.ls from rfl,k4,bf hm];rfl
  generalize ((0+j:Nat):Int)=J;simp![A.fld4,op2,ni]) ⟨none,none,rfl,rfl⟩
 simp![T8,hr,e1];exact u8 rfl
end
def jgB(js:List Str)(k:Nat):Bool:=decide (k∈(G4 js).map (·.1))
def jdB(js:List Str)(k:Nat):Bool:=decide (k∈(G4 js).map (·.2))
def a0H(ls:List Lt)(row:List Str)(k:Nat):Str:=N2 (A8 ls (row.getD k "")).fs (jdB (c9 ls row) k) (jgB (c9 ls row) k)
def j0(ls:List Lt)(row:List Str):List Str:=(List.range row.length).map (a0H ls row)
theorem b9S{k:Nat}(hk:k<row.length):∃h:k<↥(c9 ls row),(c9 ls row)[k]=(A8 ls (row.getD k "")).j:=by refine⟨by unfold c9;rw[aa];exact hk,?_⟩;unfold c9;rw[List.getElem_map,bx,ai hk];rfl
theorem b4O{k:Nat}(hk:k<row.length)(e:jgB (c9 ls row) k=true):(A8 ls (row.getD k "")).j="both":=by obtain⟨p,hp,rfl⟩:=ao.mp (ax e);obtain⟨h1,h2⟩:=b9S (ls:=ls) hk;have:=(bm.mp hp).2;unfold jnx at this;rw[ae,bx,ai h1] at this;exact h2.symm.trans (ax this.1)
theorem b6i{l:Lt}(o:LtOk sh l)(h:l.j="both"):↥l.fs=4:=by have:=o.jn;rw[h,show o0 a3I (.str "both")=some (.int 4) by rfl] at this;injection this with this;injection this with this;ac_nf
theorem c0Z{l:Lt}(o:LtOk sh l)(h:l.j="back"):↥l.fs=2:=by have:=o.jn;rw[h,show o0 a3I (.str "back")=some (.int 2) by rfl] at this;injection this with this;injection this with this;ac_nf
section
variable{ct:CT}{F:Nat->Option Fn}
theorem b2p{k r:Nat}{i:Int}{f:Nat×Nat->Nat}{ps:List (Nat×Nat)}(hi:∀p h,ixD h (prD p) (.int i)=.ok ⇑(f p) h)(he:env[3]? =some (~~~r))(hr:h[r]? =some (.lst (ps.map prD)))(hl:↥ps<=100000):ev ct (b5 ct F k) (foD i) env h=.ok (.ref (↥h+1)) (h++[.lst ((ps.map f).map λi:Nat=>D.tup [.int (i:Int),.bl true])]++[.dict (dI (ps.map f))]):=by
 have l1:↥(h++[Cell.lst ((ps.map f).map λi:Nat=>D.tup [.int (i:Int),.bl true])])=↥h+1:=by simp
 have cm:ev ct (b5 ct F k) (.comp (.nm 0) (.seq (.v 3)) 1 [] .yes (.tup (.ix (.v 0) (.k (.int i))>=>.o (.k (.bl true))))) env h=.ok (.ref ↥h) (h++[.lst ((ps.map f).map λi:Nat=>D.tup [.int (i:Int),.bl true])]):=by
  rw[o6 (l:=ps.map prD) (g:=[(r,.lst (ps.map prD))]) (h1:=h) (by simp![he,M3,hr]) (by simp only[gOk,all_cons,all_nil,hr];simp) (λx=>match x with
   |.tup [.int a,.int b]=>.tup [.int ((f (a.toNat,b.toNat):Nat):Int),.bl true]
   |_=>.non) (λx=>[some x]) (λx hx=>by
   obtain⟨p,_,rfl⟩:=ao.mp hx;refine⟨rfl,?_⟩;simp![hi];rfl) (by rw[aa];show _<=16777216;ac_nf)]
  congr 3;rw[aK,aK];rfl
 unfold foD;simp![cm,b5w,l1]
theorem a7R{k r:Nat}{H:HL}(f33:F 33=some B6)(hF:F 34=some N3)(f35:F 35=some C0)(f36:F 36=some C9)(f37:F 37=some E7)(K:HLok H)(A:HallAt h n (M4 H))(hr:h[r]? =some (.lst (row.map .str)))(cP:∀x∈row,x∈H.ls.map (·.n))(hl:row.length<=63):b5 ct F (k+3) 34 [.ref n,.ref r] h=.ok (.ref ↥h) (h++[.lst ((j0 H.ls row).map .str)]):=by
 have c4:h[n+4]? =some (.dict (kd (H.ls.map λl=>(l.n,.tup [.str l.j,.str l.w,.tup (l.fs.map .str)])))):=A.c4;have lk:∀{x:AH} {z:Str},x[n+4]? =some (.dict (kd (H.ls.map λl=>(l.n,.tup [.str l.j,.str l.w,.tup (l.fs.map .str)]))))->z∈row->ixD x (.ref (n+4)) (.str z)=.ok (.tup [.str (A8 H.ls z).j,.str (A8 H.ls z).w,.tup ((A8 H.ls z).fs.map .str)]) x:=λe hz=>a8E (λl=>.tup [.str l.j,.str l.w,.tup (l.fs.map .str)]) e (cP _ hz);rw[i6 hF rfl];simp only[N3];rw[seq (by simp![b2Y f33 A hr cP];rfl)];have cj:ev ct (b5 ct F (k+2)) foJ [~~~n,~~~r,none,none,none,none,none,none] h=.ok (.ref ↥h) (h++[.lst ((c9 H.ls row).map .str)]):=by
  unfold foJ;rw[o6 (l:=row.map .str) (g:=[(r,.lst (row.map .str))]) (h1:=h) (by simp![M3,hr]) (by simp only[gOk,all_cons,all_nil,hr];simp) (λx=>match x with
   |.str z=>.str (A8 H.ls z).j
   |_=>.non) (λx=>[some x,~~~n]) (λx hx=>by
   obtain⟨z,hz,rfl⟩:=ao.mp hx;refine⟨rfl,?_⟩;simp![A.fld4,lk c4 hz,a0S]) (by rw[aa];show _<=16777216;ac_nf)]
  congr 3;unfold c9;rw[aK,aK];rfl
 have jl:↥(c9 H.ls row)=row.length:=by unfold c9;rw[aa]
 have aJ:(h++[Cell.lst ((c9 H.ls row).map .str)])[↥h]? =some (.lst ((c9 H.ls row).map .str)):=b7;have P1:Pf h (h++[Cell.lst ((c9 H.ls row).map .str)]):=(Pf.refl h).app _;generalize hx1:h++[Cell.lst ((c9 H.ls row).map .str)]=x1 at cj aJ P1;have pk:=b1q (ct:=ct) (F:=F) (k:=k) f36 f35 aJ (by rw[jl];ac_nf);rw[seq (by simp![cj,pk];rfl)];have aP:(x1++[Cell.lst ((G4 (c9 H.ls row)).map prD)])[↥x1]? =some (.lst ((G4 (c9 H.ls row)).map prD)):=b7;replace P1:=P1.app [Cell.lst ((G4 (c9 H.ls row)).map prD)];have pl:↥(G4 (c9 H.ls row))<=100000:=by have q1:=bw (a2E (c9 H.ls row)) (List.range ↥(c9 H.ls row));unfold G4;refine aU (bw _ _) ?_;rw[length_zip];unfold b8;rw[aL] at q1;ac_nf
 generalize ↥x1=p at aP;generalize x1++[Cell.lst ((G4 (c9 H.ls row)).map prD)]=x2 at aP P1;have d0:=b2p (ct:=ct) (F:=F) (k:=k+2) (i:=0) (f:=λp=>p.1) (env:=[~~~n,~~~r,none,~~~p,none,none,none,none]) (h:=x2) (λp h=>ix_tup (i:=0) rfl) rfl aP pl;have l2:↥(x2++[Cell.lst (((G4 (c9 H.ls row)).map λp=>p.1).map λi:Nat=>D.tup [.int (i:Int),.bl true])])=↥x2+1:=by simp
 have aG:(x2++[Cell.lst (((G4 (c9 H.ls row)).map λp=>p.1).map λi:Nat=>D.tup [.int (i:Int),.bl true])]++[Cell.dict (dI ((G4 (c9 H.ls row)).map λp=>p.1))])[↥x2+1]? =some (.dict (dI ((G4 (c9 H.ls row)).map λp=>p.1))):=by rw[←l2];exact b7
 replace P1:=(P1.app [Cell.lst (((G4 (c9 H.ls row)).map λp=>p.1).map λi:Nat=>D.tup [.int (i:Int),.bl true])]).app [Cell.dict (dI ((G4 (c9 H.ls row)).map λp=>p.1))];replace aP:=b6 (g:=[Cell.dict (dI ((G4 (c9 H.ls row)).map λp=>p.1))]) (b6 (g:=[Cell.lst (((G4 (c9 H.ls row)).map λp=>p.1).map λi:Nat=>D.tup [.int (i:Int),.bl true])]) aP);rw[seq (bI:=[~~~n,~~~r,none,~~~p,some (.ref (↥x2+1)),none,none,none]) (h':=x2++[.lst (((G4 (c9 H.ls row)).map λp=>p.1).map λi:Nat=>D.tup [.int (i:Int),.bl true])]++[.dict (dI ((G4 (c9 H.ls row)).map λp=>p.1))]) (by rw[a0l,d0,d9];rfl)];generalize ↥x2+1=g at aG;generalize x2++[Cell.lst (((G4 (c9 H.ls row)).map λp=>p.1).map λi:Nat=>D.tup [.int (i:Int),.bl true])]++[Cell.dict (dI ((G4 (c9 H.ls row)).map λp=>p.1))]=x3 at aG aP P1;have d1:=b2p (ct:=ct) (F:=F) (k:=k+2) (i:=1) (f:=λp=>p.2) (env:=[~~~n,~~~r,none,~~~p,~~~g,none,none,none]) (h:=x3) (λp h=>ix_tup (i:=1) rfl) rfl aP pl;have l3:↥(x3++[Cell.lst (((G4 (c9 H.ls row)).map λp=>p.2).map λi:Nat=>D.tup [.int (i:Int),.bl true])])=↥x3+1:=by simp
 have aD:(x3++[Cell.lst (((G4 (c9 H.ls row)).map λp=>p.2).map λi:Nat=>D.tup [.int (i:Int),.bl true])]++[Cell.dict (dI ((G4 (c9 H.ls row)).map λp=>p.2))])[↥x3+1]? =some (.dict (dI ((G4 (c9 H.ls row)).map λp=>p.2))):=by rw[←l3];exact b7
 replace P1:=(P1.app [Cell.lst (((G4 (c9 H.ls row)).map λp=>p.2).map λi:Nat=>D.tup [.int (i:Int),.bl true])]).app [Cell.dict (dI ((G4 (c9 H.ls row)).map λp=>p.2))];replace aG:=b6 (g:=[Cell.dict (dI ((G4 (c9 H.ls row)).map λp=>p.2))]) (b6 (g:=[Cell.lst (((G4 (c9 H.ls row)).map λp=>p.2).map λi:Nat=>D.tup [.int (i:Int),.bl true])]) aG);rw[seq (bI:=[~~~n,~~~r,none,~~~p,~~~g,some (.ref (↥x3+1)),none,none]) (h':=x3++[.lst (((G4 (c9 H.ls row)).map λp=>p.2).map λi:Nat=>D.tup [.int (i:Int),.bl true])]++[.dict (dI ((G4 (c9 H.ls row)).map λp=>p.2))]) (by rw[a0l,d1,d9];rfl)];generalize ↥x3+1=q at aD;generalize x3++[Cell.lst (((G4 (c9 H.ls row)).map λp=>p.2).map λi:Nat=>D.tup [.int (i:Int),.bl true])]++[Cell.dict (dI ((G4 (c9 H.ls row)).map λp=>p.2))]=x4 at aG aD P1;rw[seq (by simp![v8];rfl)];have hA:∀t,HallAt (x4++t) n (M4 H):=λt=>by
  have:x4=h++x4.drop ↥h:=by have:=take_append_drop ↥h x4;rw[P1.take] at this;exact this.symm
  rw[this,aB];exact A.app _
 obtain⟨bI,g',e1,e2,e7,rfl,rfl⟩:=A9 (g:=[(r,.lst (row.map .str))]) (p:=.tp (.nm 7>=>.nm 2>=>.nil)) (body:=exs ct (b5 ct F (k+2)) foB) (λj env hh=>∃e2 e7,env=[~~~n,~~~r,e2,~~~p,~~~g,~~~q,~~~↥x4,e7]/\hh=x4++[.lst (((List.range j).map (a0H H.ls row)).map .str)]) (λj env hh hP=>by
  obtain⟨_,_,_,rfl⟩:=hP;simp only[gOk,all_cons,all_nil,b6 (P1.at hr)];simp) (u5 0 (row.map .str)) 0 [~~~n,~~~r,none,~~~p,~~~g,~~~q,~~~↥x4,none] (x4++[.lst []]) (λj x env hh hx hP=>by
  obtain⟨e2,e7,rfl,rfl⟩:=hP;obtain⟨y,hy,rfl⟩:=T7 hx;rw[ak] at hy;obtain⟨z,hz,rfl⟩:=Option.map_eq_some_iff.mp hy;have hj:=(ac.mp hz).1;have hm:=aI hz;have zg:row.getD j ""=z:=by rw[bx,hz];rfl
  rw[aC];have A1:=hA [.lst (((List.range j).map (a0H H.ls row)).map .str)];have o:=K.lso _ (a8B (cP z hm));have g1:=b6a (k:=j) (b6 (g:=[.lst (((List.range j).map (a0H H.ls row)).map .str)]) aG);have q1:=b6a (k:=j) (b6 (g:=[.lst (((List.range j).map (a0H H.ls row)).map .str)]) aD);have fc:a0H H.ls row j=N2 (A8 H.ls z).fs (jdB (c9 H.ls row) j) (jgB (c9 H.ls row) j):=by unfold a0H;rw[zg]
  have am:=b3i (ct:=ct) (F:=F) (k:=k+1) (p:=jdB (c9 H.ls row) j) (q:=jgB (c9 H.ls row) j) (h:=x4++[.lst (((List.range j).map (a0H H.ls row)).map .str)]) f37 o.few.1 (λe=>by have e:=b4O hj e;rw[zg] at e;exact b6i o e)
  have i2:∀h,ixD h (.tup [.str (A8 H.ls z).j,.str (A8 H.ls z).w,.tup ((A8 H.ls z).fs.map .str)]) (.int 2)=.ok (.tup ((A8 H.ls z).fs.map .str)) h:=λh=>ix_tup (i:=2) rfl;refine⟨_,[~~~n,~~~r,some (.str z),~~~p,~~~g,~~~q,~~~↥x4,j⁻¹],_,rfl,?_,_,_,rfl,rfl⟩;rw[List.range_succ,aq,aq,map_cons,map_nil,map_cons,map_nil,fc];unfold foB jdB jgB;unfold jdB jgB at am;simp![D3 b7,A1.fld4,lk A1.c4 hm,i2,q1,g1,am,a9c (show(((List.range j).map (a0H H.ls row)).map D.str).length<1000000 by rw[aa,aa,aL];ac_nf)]) ⟨none,none,rfl,rfl⟩
 rw[P0,aa,aC] at e1;rw[seq (bI:=_) (h':=x4++[.lst (((List.range row.length).map (a0H H.ls row)).map .str)]) (by simp![T8,b6 (g:=[Cell.lst []]) (P1.at hr),e1];rfl)];simp![];exact a2G (P1.app _) b7 P1.len (C2 _)
end
noncomputable def a1c(cs:List Cs)(it:Str):List Str:=match cs.find? λc=>decide (it=("@":Str)++c.n) with
 |some c=>c.fs
 |none=>[it]
theorem a7O(nd:(cs.map (·.n)).Nodup){c:Cs}(hc:c∈cs):a1c cs (("@":Str)++c.n)=c.fs:=by
 have :(cs.find? λd=>decide ((("@":Str)++c.n)=("@":Str)++d.n))=some c:=by
  induction cs with
  |nil=>cases hc
  |cons d r ih=>
   rw[map_cons,aX] at nd;rw[List.find?_cons];rcases aH.mp hc with rfl|h
   · rw[bf rfl]
   · have ne:¬(("@":Str)++c.n)=("@":Str)++d.n:=λe=>by have e2:=congrArg cd e;rw[E3,E3] at e2;have:=U9 (List.append_cancel_left e2);exact nd.1 (by rw[←this];exact ao.mpr ⟨c,h,rfl⟩)
     rw[bA ne];exact ih nd.2 h
 unfold a1c;rw[this]
theorem a9W{it:Str}(hn:g9 it=true):a1c cs it=[it]:=by
 have:(cs.find? λd=>decide (it=("@":Str)++d.n))=none:=List.find?_eq_none.mpr λd _ e=>by have e:=ax e;refine a1Z hn (c:=64) ∅ ?_;rw[e,E3];exact .head _
 unfold a1c;rw[this]
theorem b2l{c:Cs}:∀{cs:List Cs},(cs.map (·.n)).Nodup->c∈cs->o0 (kd (hC cs)) (.str c.n)=some (.tup (c.fs.map .str))
 | x ::r,hn,hc=>by
  have hn:=aX.mp hn;unfold o0 kd hC;rw[map_cons,map_cons,List.find?_cons];rcases aH.mp hc with rfl|hc
  · simp
  · have ne:¬(D.str x.n=D.str c.n):=λe=>by injection e with e;exact hn.1 (ao.mpr ⟨c,hc,e.symm⟩)
    simp only[ne,decide_false];exact b2l hn.2 hc
section
variable{ct:CT}{F:Nat->Option Fn}(W:PF F)(f38:F 38=some a1h)(f39:F 39=some z8)
include W f39
theorem a1I{k:Nat}{it:Str}(hn:g9 it=true):b5 ct F (k+2) 39 [.ref n,.str it] h=.ok (.tup [.str it]) h:=by
 rw[i6 f39 rfl];simp only[z8];have dN:Txt.startswith it "@"=false:=by
  have:=a8x W hn;rw[show Txt.startswith it "@"=decide ((cd it).head? =some 64) from W2];refine bA λe=>a1Z hn (c:=64) ∅ ?_;cases hq:cd it with
  |nil=>rw[hq] at e;cases e
  |cons c r=>rw[hq] at e;injection e with e;subst e;exact .head _
 simp![mtT,mtD,dN];exact u8 rfl
theorem a0P{k:Nat}{c:Cs}{H:HL}(K:HLok H)(A:HallAt h n (M4 H))(hc:c∈H.cs):b5 ct F (k+2) 39 [.ref n,.str (("@":Str)++c.n)] h=.ok (.tup (c.fs.map .str)) h:=by
 rw[i6 f39 rfl];simp only[z8];have hd:cd (("@":Str)++c.n)=64::cd c.n:=by rw[E3];rfl
 have ht:tl (("@":Str)++c.n)=c.n:=U9 (by rw[a3P,hd];rfl);have wk:=WOk.at (K.cso c hc).nm;have dN:Txt.startswith (("@":Str)++c.n) "@"=true:=by rw[show Txt.startswith (("@":Str)++c.n) "@"=decide ((cd (("@":Str)++c.n)).head? =some 64) from W2,hd];rfl
 have co:=a0q (ct:=ct) (n:=k) (z:=("@":Str)++c.n) (h:=h) W (by have:=wk.p;ac_nf) (by have:=wk.l;ac_nf);rw[ht] at co;have dc:b1T h (.ref (n+6))=true:=by simp only[b1T,A.c6]
 have dg:a6U h (.ref (n+6)) (.str c.n) (.tup [])=.ok (.tup (c.fs.map .str)) h:=by simp only[a6U,A.c6];rw[az (by rw[a0C];cases hq:H.cs with|nil=>rw[hq] at hc;cases hc|cons a b=>simp[M4,hC,kd,hq,K7]),show o0 (kd (M4 H).classes) (.str c.n)=_ from b2l K.csn hc];rfl
 simp![mtT,mtD,dN,b5o,A.fld6,dc,co,dg];exact u8 (C2 _)
include f38
theorem a9V{k:Nat}{it s:Str}(hn:g9 it=true):b5 ct F (k+3) 38 [.ref n,.str it,.str s] h=.ok (.bl (decide (it=s))) h:=by
 rw[i6 f38 rfl];simp only[a1h];have hi:M8 false h (.str s) (.tup [.str it])=.ok (.bl (decide (it=s))) h:=by simp only[M8];rw[az (by rfl)];show R.ok (D.bl ((decide (it=s)||false) !=false)) h=_;simp
 simp![a1I W f39 hn,op2,hi];exact u8 rfl
theorem a7N{k:Nat}{c:Cs}{s:Str}{H:HL}(K:HLok H)(A:HallAt h n (M4 H))(hc:c∈H.cs):b5 ct F (k+3) 38 [.ref n,.str (("@":Str)++c.n),.str s] h=.ok (.bl (decide (s∈c.fs))) h:=by
 rw[i6 f38 rfl];simp only[a1h];have hi:M8 false h (.str s) (.tup (c.fs.map .str))=.ok (.bl (decide (s∈c.fs))) h:=by simp only[M8];rw[az (by rw[a2h];rfl),a2U];simp
 simp![a0P W f39 K A hc,op2,hi];exact u8 rfl
variable{H:HL}
theorem b2w{k:Nat}{it s:Str}(K:HLok H)(A:HallAt h n (M4 H))(o:Y3 H.sh H.cs it):b5 ct F (k+3) 38 [.ref n,.str it,.str s] h=.ok (.bl (decide (s∈a1c H.cs it))) h/\b5 ct F (k+2) 39 [.ref n,.str it] h=.ok (.tup ((a1c H.cs it).map .str)) h:=by
 rcases o with o|⟨c,hc,rfl⟩
 · have hn:=N9 K o;rw[a9W hn];refine⟨?_,a1I W f39 hn⟩;rw[a9V W f38 f39 hn];congr 2;exact decide_eq_decide.mpr ⟨λe=>by rw[e];exact .head _,λe=>(aR.mp e).symm⟩
 · rw[a7O K.csn hc];exact⟨a7N W f38 f39 K A hc,a0P W f39 K A hc⟩
end
theorem b2i{α:Type}(k:α->Str)(f:α->D)(n:Str):∀l:List α,o0 (kd (l.map λx=>(k x,f x))) (.str n)=(l.find? λx=>decide (k x=n)).map f
 |[]=>rfl
 |x::r=>by
  have ih:=b2i k f n r;unfold o0 kd at ih⊢;rw[map_cons,map_cons,List.find?_cons,List.find?_cons]
  by_cases e:k x=n
  · have e':D.str (k x)=D.str n:=by rw[e]
    simp only[e,decide_true];rfl
  · have e':¬D.str (k x)=D.str n:=λz=>e (by injection z);simp only[e,e',decide_false];exact ih
abbrev Cl:=Str×List Int
noncomputable def clD(c:Cl):D:=.tup [.str c.1,.tup (c.2.map .int)]
structure Sg where
 f:Str
 a:Int
 b:Int
 o:Bool
noncomputable def sgD(s:Sg):D:=.tup [.str s.f,.int s.a,.int s.b,.bl s.o]
noncomputable def a7P(fe:List (Str×Bool))(f:Str):Bool:=((fe.find? λp=>decide (p.1=f)).map (·.2)).getD false
noncomputable def Y8(f:Str)(l:Int)(b:Bool)(s:Sg):Bool:=if s.f=f/\s.a<=l/\l<=s.b then s.o else b
def a1D(fe:List (Str×Bool))(ss:List Sg)(f:Str)(l:Int):Bool:=ss.foldl (Y8 f l) (a7P fe f)
variable{ss:List Sg}
section
variable{ct:CT}{F:Nat->Option Fn}{H:HL}
theorem b9W(A:HallAt h n (M4 H))(hf:f∈H.fe.map (·.1)):ixD h (.ref (n+7)) (.str f)=.ok (.bl (a7P H.fe f)) h:=by
 have k:D6 (.str f) (kd (hF H.fe))=true:=a0C _ _;have g:o0 (kd (hF H.fe)) (.str f)=_:=b2i (λp:Str×Bool=>p.1) (λp=>D.bl p.2) f H.fe;obtain⟨p,hp,rfl⟩:=ao.mp hf;cases e:H.fe.find? λq=>decide (q.1=p.1) with
 |none=>
  have:=List.find?_eq_none.mp e p hp;simp at this
 |some q=>
  rw[e] at g;unfold a7P;rw[e];simp only[ixD,A.c7,show(M4 H).features=hF H.fe from rfl,k,if_true,g];rfl
theorem b5S{s:Sg}:ixD h (sgD s) (.int 0)=.ok (.str s.f) h/\ixD h (sgD s) (.int 1)=.ok (.int s.a) h/\ixD h (sgD s) (.int 2)=.ok (.int s.b) h/\ixD h (sgD s) (.int 3)=.ok (.bl s.o) h:=⟨ix_tup (i:=0) rfl,ix_tup (i:=1) rfl,ix_tup (i:=2) rfl,ix_tup (i:=3) rfl⟩
theorem b4Q{k s:Nat}{l:Int}(hF:F 46=some a1K)(A:HallAt h n (M4 H))(hs:h[s]? =some (.lst (ss.map sgD)))(hf:f∈H.fe.map (·.1)):b5 ct F (k+1) 46 [.ref n,.str f,.ref s,.int l] h=.ok (.bl (a1D H.fe ss f l)) h:=by
 obtain⟨bI,g',q1,e5,rfl,hg⟩:=A9 (g:=[(s,.lst (ss.map sgD))]) (p:=.nm 5) (body:=exs ct (b5 ct F k) onB) (λj env hh=>∃e5,env=[~~~n,some (.str f),~~~s,some (.int l),some (.bl ((ss.take j).foldl (Y8 f l) (a7P H.fe f))),e5]/\hh=h) (λj env hh hP=>by
  obtain⟨_,_,rfl⟩:=hP;simp only[gOk,all_cons,all_nil,hs];simp) (ss.map sgD) 0 [~~~n,some (.str f),~~~s,some (.int l),some (.bl (a7P H.fe f)),none] h (λj x env hh hx hP=>by
  obtain⟨e5,rfl,rfl⟩:=hP;rw[ak] at hx;obtain⟨p,hp,rfl⟩:=Option.map_eq_some_iff.mp hx;obtain⟨z1,z2⟩:=ac.mp hp;obtain⟨i0,i1,i2,i3⟩:=b5S (s:=p) (h:=hh);rw[aC,take_succ_eq_append_getElem z1,List.foldl_append,z2];refine⟨_,[~~~n,some (.str f),~~~s,some (.int l),some (.bl (Y8 f l ((ss.take j).foldl (Y8 f l) (a7P H.fe f)) p)),some (sgD p)],_,rfl,?_,_,rfl,rfl⟩;generalize (ss.take j).foldl (Y8 f l) (a7P H.fe f)=b;have le:∀i j:Int,op2 .le hh (.int i) (.int j)=.ok (.bl (decide (i<=j))) hh:=λ_ _=>rfl;unfold onB Y8
  by_cases h1:p.f=f
  · by_cases h2:p.a<=l
    · by_cases h3:l<=p.b
      · simp![i0,i1,i2,i3,a1j,le,bf h1,bf h2,bf h3];rw[az ⟨h1,h2,h3⟩]
      · simp![i0,i1,i2,i3,a1j,le,bf h1,bf h2,bA h3];rw[aA λz=>h3 z.2.2]
    · simp![i0,i1,i2,i3,a1j,le,bf h1,bA h2];rw[aA λz=>h2 z.2.1]
  · simp![i0,a1j,bA h1];rw[aA λz=>h1 z.1]) ⟨none,rfl,rfl⟩
 rw[aa,aC,bh,hg] at q1;rw[i6 hF rfl,a1K];rw[seq (by simp![A.fld7,b9W A hf];rfl)];rw[seq (by simp![M3,hs,q1];rfl)];simp![];exact u8 rfl
end
noncomputable def G9(p:List D×D)(c:Cl):List D×D:=match c.2 with
 |[]=>(p.1++[p.2],p.2)
 |x::r=>(p.1++[.int x],.int ((x::r).getLastD 0))
def hmD(cs:List Cl):List D:=(cs.foldl G9 ([],.non)).1
noncomputable def o7(cs:List Cl):List Int:=(cs.map (·.2)).flatten
def T2(o:List Str)(cs:List Cl):List Cl:=(o.headD "",o7 cs)::(o.drop 1).map λs=>(s,[])
section
variable{ct:CT}{F:Nat->Option Fn}{H:HL}
theorem b1u{k s r:Nat}{ls:List Int}(f46:F 46=some a1K)(hF:F 47=some L7)(A:HallAt h n (M4 H))(hs:h[s]? =some (.lst (ss.map sgD)))(hr:h[r]? =some (.lst (ls.map .int)))(hf:f∈H.fe.map (·.1))(hl:↥ls<=1000):b5 ct F (k+2) 47 [.ref n,.str f,.ref s,.ref r] h=.ok (.bl (ls.all (a1D H.fe ss f))) h:=by
 have cm:ev ct (b5 ct F (k+1)) (.comp (.nm 0) (.seq (.v 3)) 1 [1,0,2] .yes (.call 46 (.v 2>=>.v 1>=>.v 3>=>.o (.v 0)))) [~~~n,some (.str f),~~~s,~~~r] h=.ok (.ref ↥h) (h++[.lst (ls.map λl=>D.bl (a1D H.fe ss f l))]):=by
  rw[o6 (l:=ls.map .int) (g:=[(r,.lst (ls.map .int))]) (h1:=h) (by simp![M3,hr]) (by simp only[gOk,all_cons,all_nil,hr];simp) (λx=>match x with
   |.int l=>.bl (a1D H.fe ss f l)
   |_=>.non) (λx=>[some x,some (.str f),~~~n,~~~s]) (λx hx=>by
   obtain⟨l,_,rfl⟩:=ao.mp hx;refine⟨rfl,?_⟩;simp![b4Q f46 A hs hf]) (by rw[aa];show _<=16777216;ac_nf),aK]
  rfl
 rw[i6 hF rfl];simp only[L7];simp![cm,X9 (P:=a1D H.fe ss f)];exact gc1 rfl
theorem a4J{k s:Nat}(f45:F 45=some J5)(A:HallAt h n (M4 H))(hs:h[s]? =some (.lst (ss.map sgD)))(cP:∀p∈ss,p.f∈H.fe.map (·.1)):b5 ct F (k+1) 45 [.ref n,.ref s] h=.ok .non h:=by
 obtain⟨bI,g',q1,e5,rfl,hg⟩:=A9 (g:=[(s,.lst (ss.map sgD))]) (p:=.nm 2) (body:=exs ct (b5 ct F k) cfB) (λj env hh=>∃e5,env=[~~~n,~~~s,e5]/\hh=h) (λj env hh hP=>by
  obtain⟨_,_,rfl⟩:=hP;simp only[gOk,all_cons,all_nil,hs];simp) (ss.map sgD) 0 [~~~n,~~~s,none] h (λj x env hh hx hP=>by
  obtain⟨e5,rfl,rfl⟩:=hP;rw[ak] at hx;obtain⟨p,hp,rfl⟩:=Option.map_eq_some_iff.mp hx;refine⟨_,[~~~n,~~~s,some (sgD p)],_,rfl,?_,_,rfl,rfl⟩;have ni:=b1x (k:=p.f) A.c7;rw[show(M4 H).features=hF H.fe from rfl,show(hF H.fe).map (·.1)=H.fe.map (·.1) from a2d _ _ _,bf (cP p (aI hp))] at ni;unfold cfB;simp![b5S.1,A.fld7,op2,ni,Bool.not_true]) ⟨none,rfl,rfl⟩
 rw[hg] at q1;rw[i6 f45 rfl,J5];rw[seq (by simp![M3,hs,q1];rfl)];simp![];exact u8 rfl
theorem a1O{c:Cl}:ixD h (clD c) (.int 0)=.ok (.str c.1) h/\ixD h (clD c) (.int 1)=.ok (.tup (c.2.map .int)) h:=⟨ix_tup (i:=0) rfl,ix_tup (i:=1) rfl⟩
theorem b1W:∀(cs:List Cl) (p:List D×D),(cs.foldl G9 p).1.length=↥p.1+↥cs
 |[],p=>rfl
 |c::r,p=>by rw[foldl_cons,b1W r,length_cons];unfold G9;cases c.2<;>simp<;>ac_nf
theorem a8N:∀(cs:List Cl) (p:List D×D),D.flats p.1=true->p.2.flat=true->D.flats (cs.foldl G9 p).1=true/\(cs.foldl G9 p).2.flat=true
 |[],p,a,b=>⟨a,b⟩
 | c::r,p,a,b=>by
  have ap:∀(l:List D) (d:D),D.flats l=true->d.flat=true->D.flats (l++[d])=true:=λl d=>by
   induction l with
   |nil=>intro _ h;show(d.flat&&true)=true;rw[h];rfl
   |cons x t ih=>
    intro h1 h2;rw[D.flats,ae] at h1;rw[cons_append,D.flats,h1.1,ih h1.2 h2];rfl
  rw[foldl_cons];refine a8N r _ ?_ ?_<;>unfold G9<;>cases c.2
  · exact ap _ _ a b
  · exact ap _ _ a rfl
  · exact b
  · rfl
theorem b1U{k:Nat}{cs:List Cl}(hF:F 44=some X3)(hw:h[w]? =some (.lst (cs.map clD)))(hl:↥cs<=100000):b5 ct F (k+1) 44 [.ref w] h=.ok (.ref ↥h) (h++[.lst (hmD cs)]):=by
 have wl:=(ac.mp hw).1;obtain⟨bI,g',q1,e3,rfl,hg⟩:=A9 (g:=[(w,.lst (cs.map clD))]) (p:=.nm 3) (body:=exs ct (b5 ct F k) hoB) (λj env hh=>∃e3,env=[~~~w,~~~↥h,some ((cs.take j).foldl G9 ([],.non)).2,e3]/\hh=h++[.lst ((cs.take j).foldl G9 ([],.non)).1]) (λj env hh hP=>by
  obtain⟨_,_,rfl⟩:=hP;simp only[gOk,all_cons,all_nil,b6 hw];simp) (cs.map clD) 0 [~~~w,~~~↥h,some .non,none] (h++[.lst []]) (λj x env hh hx hP=>by
  obtain⟨e3,rfl,rfl⟩:=hP;rw[ak] at hx;obtain⟨c,hc,rfl⟩:=Option.map_eq_some_iff.mp hx;obtain⟨z1,z2⟩:=ac.mp hc;have ln:=b1W (cs.take j) ([],.non);rw[aO,length_nil] at ln;rw[aC,take_succ_eq_append_getElem z1,List.foldl_append,z2];generalize (cs.take j).foldl G9 ([],.non)=p at ln;obtain⟨i0,i1⟩:=a1O (c:=c) (h:=h++[.lst p.1]);show∃bY bI h',some [~~~w,~~~↥h,some p.2,some (clD c)]=some bY/\exs ct (b5 ct F k) hoB bY (h++[.lst p.1])=.ok (.nx bI) h'/\∃e3,bI=[~~~w,~~~↥h,some (G9 p c).2,e3]/\h'=h++[.lst (G9 p c).1];have ap:∀d,mtD .append (h++[.lst p.1]) (.ref ↥h) [d]=.ok .non (h++[.lst (p.1++[d])]):=λd=>a9c nofun;have mt:mtT .append (h++[.lst p.1]) (.ref ↥h)=true:=by simp only[mtT,a1x,Option.isSome_some]
  refine⟨_,[~~~w,~~~↥h,some (G9 p c).2,some (clD c)],_,rfl,?_,_,rfl,rfl⟩;unfold hoB G9;cases e:c.2 with
  |nil=>
   rw[e,map_nil] at i1;simp![i1,show biD .len (h++[.lst p.1]) [.tup []]=.ok (.int 0) (h++[.lst p.1]) from rfl,show op2 .gt (h++[.lst p.1]) (.int 0) (.int 0)=.ok (.bl false) (h++[.lst p.1]) from rfl,mt,ap]
  | cons x r=>
   have i2:∀h,ixD h (clD c) (.int 1)=.ok (.tup (.int x::r.map .int)) h:=λh=>by rw[←map_cons (f:=D.int),←e];exact a1O.2
   have lx:biD .len (h++[.lst p.1]) [.tup (.int x::r.map .int)]=.ok ⇑(↥r+1) (h++[.lst p.1]):=by show R.ok (D.int (↥(D.int x::r.map D.int):Int)) _=_;rw[length_cons,aa]
   have gt:op2 .gt (h++[.lst p.1]) ⇑(↥r+1) (.int 0)=.ok (.bl true) (h++[.lst p.1]):=by show R.ok (D.bl (decide ((0:Int)<((↥r+1:Nat):Int)))) _=_;rw[bf nofun]
   have f0:∀h,ixD h (.tup (.int x::r.map .int)) (.int 0)=.ok (.int x) h:=λh=>ix_tup (i:=0) rfl;have fl:∀h,ixD h (.tup (.int x::r.map .int)) (.int (-1))=.ok (.int ((x::r).getLastD 0)) h:=λh=>a6a (by rw[←map_cons (f:=D.int),aa,ak,List.getLastD_eq_getLast?,List.getLast?_eq_getElem?];rw[ai (show(x::r).length-1<↥(x::r) by rw[length_cons];ac_nf)];rfl)
   simp![i2,lx,gt,f0,fl,mt,ap]) ⟨none,rfl,rfl⟩
 rw[aa,aC,bh] at hg q1;rw[hg] at q1;rw[i6 hF rfl,X3];rw[seq (by simp![v8];rfl)];rw[seq (by simp![];rfl)];rw[seq (by simp![M3,b6 hw,q1];rfl)];simp![];exact gc2 b7 (aj _) (a8N cs ([],.non) rfl rfl).1
end
theorem a6B{cs:List Cl}(h:j<↥cs):o7 (cs.take (j+1))=o7 (cs.take j)++cs[j].2:=by unfold o7;rw[take_succ_eq_append_getElem h,aq,List.flatten_append];simp
theorem a7F(cs:List Cl)(j:Nat):↥(o7 (cs.take j))<=↥(o7 cs):=by
 have:o7 cs=o7 (cs.take j)++o7 (cs.drop j):=by unfold o7;rw[←List.flatten_append,←aq,take_append_drop]
 rw[this,au];ac_nf
section
variable{ct:CT}{F:Nat->Option Fn}
theorem a9a(cs:List Cl):D.flats (cs.map clD)=true:=D7 λd hd=>by
 obtain⟨c,_,rfl⟩:=ao.mp hd;have:∀l:List Int,D.flats (l.map .int)=true:=λl=>D7 λd hd=>by obtain⟨i,_,rfl⟩:=ao.mp hd;rfl
 show D.flats [.str c.1,.tup (c.2.map .int)]=true;simp only[D.flats,D.flat,this,Bool.and_self]
theorem b6r{k:Nat}{T:D}{r:List Str}{cs:List Cl}(hF:F 43=some R4)(t0:∀h,ixD h T (.int 0)=.ok (.str x) h)(tsl:∀h,slD h (some 1) none T=.ok (.tup (r.map .str)) h)(hr:↥r<=1000)(hw:h[w]? =some (.lst (cs.map clD)))(hl:↥(o7 cs)<=100000):b5 ct F (k+1) 43 [T,.ref w] h=.ok (.ref ↥h) (h++[.lst (((x,o7 cs)::r.map λs=>((s,[]):Cl)).map clD)]):=by
 obtain⟨bI,g',q1,e3,rfl,hg⟩:=A9 (g:=[(w,.lst (cs.map clD))]) (p:=.nm 3) (body:=exs ct (b5 ct F k) tcB) (λj env hh=>∃e3,env=[some T,~~~w,some (.tup ((o7 (cs.take j)).map .int)),e3]/\hh=h) (λj env hh hP=>by
  obtain⟨_,_,rfl⟩:=hP;simp only[gOk,all_cons,all_nil,hw];simp) (cs.map clD) 0 [some T,~~~w,some (.tup []),none] h (λj x env hh hx hP=>by
  obtain⟨e3,rfl,rfl⟩:=hP;rw[ak] at hx;obtain⟨c,hc,rfl⟩:=Option.map_eq_some_iff.mp hx;obtain⟨z1,z2⟩:=ac.mp hc;have b:=a7F cs (j+1);rw[aC];rw[a6B z1,z2] at b⊢;rw[au] at b;refine⟨_,[some T,~~~w,some (.tup ((o7 (cs.take j)++c.2).map .int)),some (clD c)],_,rfl,?_,_,rfl,rfl⟩;have ad:op2 .add hh (.tup ((o7 (cs.take j)).map .int)) (.tup (c.2.map .int))=.ok (.tup ((o7 (cs.take j)++c.2).map .int)) hh:=by simp only[op2,O5];rw[az (by rw[aa,aa];show _<=16777216;ac_nf),aq]
  unfold tcB;simp![a1O.2,ad]) ⟨none,rfl,rfl⟩
 rw[aa,aC,bh,hg] at q1;have cm:∀(env:u9) (g:AH),env[0]? =some (some T)->ev ct (b5 ct F k) tcE env g=.ok (.ref ↥g) (g++[.lst ((r.map λs=>((s,[]):Cl)).map clD)]):=λenv g e0=>by
  unfold tcE;rw[o6 (l:=r.map .str) (g:=[]) (h1:=g) (by simp![e0,tsl,M3]) rfl (λx=>.tup [x,.tup []]) (λx=>[some x]) (λx hx=>by refine⟨rfl,?_⟩;simp![az (show 2<=SL by decide),az (show 0<=SL by decide)]) (by rw[aa];show _<=16777216;ac_nf),aK,aK]
  rfl
 rw[i6 hF rfl,R4];rw[seq (by simp![az (show 0<=SL by decide)];rfl)];rw[seq (by simp![M3,hw,q1];rfl)];have a1:(h++[Cell.lst [clD (x,o7 cs)]]++[Cell.lst ((r.map λs=>((s,[]):Cl)).map clD)])[↥h]? =some (.lst [clD (x,o7 cs)]):=b6 b7;have ad:=a3Y (g:=h++[Cell.lst [clD (x,o7 cs)]]++[Cell.lst ((r.map λs=>((s,[]):Cl)).map clD)]) a1 (b:=↥(h++[Cell.lst [clD (x,o7 cs)]])) b7 (by rw[aa,aa];simp only[length_cons,length_nil];ac_nf);have f1:ev ct (b5 ct F k) (.lst (.o (.tup (.ix (.v 0) (.i 0)>=>.o (.v 2))))) [some T,~~~w,some (.tup ((o7 cs).map .int)),e3] h=.ok (.ref ↥h) (h++[.lst [clD (x,o7 cs)]]):=by simp![t0,az (show 2<=SL by decide),az (show 1<=SL by decide),v8];rfl
 rw[K4,a1i,b2L,f1,d9,cm _ _ rfl,d9];simp only[op2,ad,d9];exact a2G ((((Pf.refl h).app _).app _).app _) b7 ⋯ (a9a ((x,o7 cs)::r.map λs=>((s,[]):Cl)))
end
def b2x(cs:List Cs)(p:Str×Cl):Bool:=decide (p.2.1∈a1c cs p.1)
def a1q(cs:List Cs)(bG:List Str)(cells:List Cl):Bool:=decide (↥bG=↥cells)&&(bG.zip cells).all (b2x cs)
theorem b0h:∀(bG:List Str) (cells:List Cl),Q8 (bG.map .str) (cells.map clD)=(bG.zip cells).map λp=>D.tup [.str p.1,clD p.2]
 |[],_=>by simp[Q8]
 |_::_,[]=>by simp[Q8]
 |i::bG,c::cells=>by rw[map_cons,map_cons,Q8,b0h bG cells];rfl
variable{cells:List Cl}
section
variable{ct:CT}{F:Nat->Option Fn}{H:HL}(W:PF F)(f38:F 38=some a1h)(f39:F 39=some z8)
include W f38 f39
theorem a6N{k n w:Nat}{T:D}{g:List (Nat×Cell)}{h:AH}(K:HLok H)(A:HallAt h n (M4 H))(hg:gOk g h=true):∀(l:List (Str×Cl)),(∀p∈l,Y3 H.sh H.cs p.1)->∀e3 e4,∃o,K8 g (.tp (.nm 3>=>.nm 4>=>.nil)) (exs ct (b5 ct F (k+3)) afB) (l.map λp=>D.tup [.str p.1,clD p.2]) [~~~n,some T,~~~w,e3,e4] h=.ok o h/\((l.all (b2x H.cs)=true/\∃bI,o=.nx bI)∨(l.all (b2x H.cs)=false/\o=.rt (.bl false)))
 |[],_,e3,e4=>⟨_,by rw[map_nil,K8,az hg],.inl ⟨rfl,_,rfl⟩⟩
 | p ::l,ho,e3,e4=>by
  have fk:=(b2w (ct:=ct) (k:=k) (s:=p.2.1) W f38 f39 K A (ho p ba)).1;obtain⟨o,q1,q2⟩:=a6N K A hg l (λx hx=>ho x (aF _ hx)) (some (.str p.1)) (some (clD p.2));rw[map_cons,K8,az hg,all_cons];simp only[F7,N4,List.set_cons_succ,List.set_cons_zero]
  by_cases e:p.2.1∈a1c H.cs p.1
  · have bo:exs ct (b5 ct F (k+3)) afB [~~~n,some T,~~~w,some (.str p.1),some (clD p.2)] h=.ok (.nx [~~~n,some T,~~~w,some (.str p.1),some (clD p.2)]) h:=by unfold afB;simp![a1O.1,fk,bf e,Bool.not_true]
    rw[bo,d9,show b2x H.cs p=true from bf e,Bool.true_and];exact⟨o,q1,q2⟩
  · have bo:exs ct (b5 ct F (k+3)) afB [~~~n,some T,~~~w,some (.str p.1),some (clD p.2)] h=.ok (.rt (.bl false)) h:=by unfold afB;simp![a1O.1,fk,bA e,Bool.not_false]
    rw[bo,d9,show b2x H.cs p=false from bA e,Bool.false_and];exact⟨_,rfl,.inr ⟨rfl,rfl⟩⟩
theorem b0f{k:Nat}(f42:F 42=some V7)(K:HLok H)(A:HallAt h n (M4 H))(ho:∀i∈bG,Y3 H.sh H.cs i)(hw:h[w]? =some (.lst (cells.map clD))):b5 ct F (k+4) 42 [.ref n,.tup (bG.map .str),.ref w] h=.ok (.bl (a1q H.cs bG cells)) h:=by
 have l1:biD .len h [.tup (bG.map .str)]=.ok ⇑↥bG h:=by show R.ok (D.int (↥(bG.map D.str):Int)) h=_;rw[aa]
 have l2:biD .len h [.ref w]=.ok ⇑↥cells h:=by rw[n9 hw,aa]
 have ne:op2 .ne h ⇑↥bG ⇑↥cells=.ok (.bl (!decide (↥bG=↥cells))) h:=by show R.ok (D.bl (!decide ((↥bG:Int)=(↥cells:Int)))) h=_;congr 3;exact decide_eq_decide.mpr ⟨λe=>by ac_nf,λe=>by ac_nf⟩
 have zi:a9g h (.tup (bG.map .str)) (.ref w)=.ok ((bG.zip cells).map λp=>D.tup [.str p.1,clD p.2],[(w,.lst (cells.map clD))]) h:=by simp only[a9g,Z8,hw,b0h]
 obtain⟨o,q1,q2⟩:=a6N (ct:=ct) (k:=k) (w:=w) (T:=.tup (bG.map .str)) (g:=[(w,.lst (cells.map clD))]) W f38 f39 K A (by simp only[gOk,all_cons,all_nil,hw];simp) (bG.zip cells) (λp hp=>ho _ (of_mem_zip hp).1) none none;generalize hT:D.tup (bG.map .str)=T at l1 zi q1⊢;rw[i6 f42 rfl,V7];unfold a1q
 by_cases e:↥bG=↥cells
 · rw[seq (by simp![l1,l2,ne,bf e,Bool.not_true];rfl),bf e,Bool.true_and];have fr:ex ct (b5 ct F (k+3)) (.for (.tp (.nm 3>=>.nm 4>=>.nil)) (.zip (.v 1) (.v 2)) afB) [~~~n,some T,~~~w,none,none] h=.ok o h:=by simp![zi,q1]
   rcases q2 with⟨a,bI,rfl⟩|⟨a,rfl⟩
   · rw[seq fr,a];simp![];exact u8 rfl
   · rw[K4,fr,a];exact u8 rfl
 · rw[bA e,Bool.false_and];simp![l1,l2,ne,bA e,Bool.not_false];exact u8 rfl
end
theorem a5J(k m:Nat)(xs:List D):P9 xs (some (k:Int)) (some ((k+m:Nat):Int))=(xs.drop k).take m:=by
 by_cases h1:k+m<=↥xs
 · rw[W0 k (k+m) xs nofun h1,show k+m-k=m by ac_nf]
 · unfold P9 HT.sIx;simp only;rw[aA nofun,aA nofun];show(xs.drop (min k ↥xs)).take (min (k+m) ↥xs-min k ↥xs)=_;rw[Nat.min_eq_right (show ↥xs<=k+m by ac_nf)]
   by_cases h:k<=↥xs
   · rw[bg h,bj ⋯,bj (by rw[bB];ac_nf)]
   · rw[Nat.min_eq_right nofun,drop_length,List.drop_of_length_le nofun];simp
theorem a8j{i m:Nat}(hw:h[w]? =some (.lst (cells.map clD))):slD h (some (i:Int)) (some ((i+m:Nat):Int)) (.ref w)=.ok (.ref ↥h) (h++[.lst (((cells.drop i).take m).map clD)]):=by rw[K6 hw,a5J,←map_drop,←map_take]
theorem b0z{i:Nat}(hw:h[w]? =some (.lst (cells.map clD))):slD h (some (i:Int)) none (.ref w)=.ok (.ref ↥h) (h++[.lst ((cells.drop i).map clD)]):=by rw[K6 hw,M1,←map_drop]
theorem b3l{i:Nat}:op2 .add h ⇑i ⇑j=.ok ⇑(i+j) h:=by rw[bv];rfl
theorem Z6{l:List Str}:biD .len h [.tup (l.map .str)]=.ok ⇑↥l h:=by show R.ok (D.int (↥(l.map D.str):Int)) h=_;rw[aa]
theorem a1v(r:Ru)(h:AH):ixD h (ruD r) (.int 1)=.ok (.str r.f) h/\ixD h (ruD r) (.int 2)=.ok (.tup (r.b.map .str)) h/\ixD h (ruD r) (.int 3)=.ok (.tup (r.c.map .str)) h/\ixD h (ruD r) (.int 4)=.ok (.tup (r.a.map .str)) h/\ixD h (ruD r) (.int 5)=.ok (.tup (r.o.map .str)) h:=⟨ix_tup (i:=1) rfl,ix_tup (i:=2) rfl,ix_tup (i:=3) rfl,ix_tup (i:=4) rfl,ix_tup (i:=5) rfl⟩
def a6E(cs:List Cs)(r:Ru)(ps cells:List Cl)(i:Nat):Bool:=a1q cs r.c ((cells.drop i).take ↥r.c)&&(a1q cs r.b (ps.drop (↥ps-↥r.b))&&a1q cs r.a ((cells.drop (i+↥r.c)).take ↥r.a))
variable{ps:List Cl}
section
variable{ct:CT}{F:Nat->Option Fn}{H:HL}(W:PF F)(f38:F 38=some a1h)(f39:F 39=some z8)(f42:F 42=some V7)
include W f38 f39 f42
theorem a6D{k p i:Nat}{r:Ru}(f41:F 41=some T6)(K:HLok H)(A:HallAt h n (M4 H))(ro:RuOk H.sh H.cs H.fe r)(hp:h[p]? =some (.lst (ps.map clD)))(hw:h[w]? =some (.lst (cells.map clD))):b5 ct F (k+5) 41 [.ref n,ruD r,.ref p,.ref w,.int (i:Int)] h=.ok (.bl (a6E H.cs r ps cells i)) h:=by
 have i2:=λh=>(a1v r h).2.1;have i3:=λh=>(a1v r h).2.2.1;have i4:=λh=>(a1v r h).2.2.2.1;rw[i6 f41 rfl];simp only[T6];have af:=fun(bG:List Str) (ho:∀i∈bG,Y3 H.sh H.cs i) (cl:List Cl) (g:AH) (q:Pf h g)=>b0f (ct:=ct) (k:=k) (n:=n) (w:=↥g) (bG:=bG) (cells:=cl) (h:=g++[.lst (cl.map clD)]) W f38 f39 f42 K ((show HallAt g n (M4 H) from⟨q.at A.o,q.at A.c1,q.at A.c2,q.at A.c3,q.at A.c4,q.at A.c5,q.at A.c6,q.at A.c7,q.at A.c8⟩).app _) ho b7;generalize ruD r=rr at i2 i3 i4⊢;rw[seq (by simp![i3,Z6,b3l];rfl)];unfold a6E;have a1:=af r.c ro.c ((cells.drop i).take ↥r.c) h (.refl h);cases e1:a1q H.cs r.c ((cells.drop i).take ↥r.c) with
 |false=>
  rw[e1] at a1;simp![i3,a8j hw,a1,Bool.not_false];exact gc1 rfl
 | true=>
  rw[e1] at a1;rw[seq (by simp![i3,a8j hw,a1,Bool.not_true];rfl)];have q1:=(Pf.refl h).app [.lst (((cells.drop i).take ↥r.c).map clD)];generalize h++[Cell.lst (((cells.drop i).take ↥r.c).map clD)]=g at q1⊢;have hp:=q1.at hp;have hw:=q1.at hw;have mx:∀g,biD .max g [.int 0,.int ((↥ps:Int)-(↥r.b:Int))]=.ok ⇑(↥ps-↥r.b) g:=λg=>by show R.ok (D.int (if(↥ps:Int)-(↥r.b:Int)>0 then(↥ps:Int)-(↥r.b:Int) else 0)) g=_;congr 2;split<;>ac_nf
  have sb:op2 .sub g ⇑↥ps ⇑↥r.b=.ok (.int ((↥ps:Int)-(↥r.b:Int))) g:=rfl;have l2:biD .len g [.ref p]=.ok ⇑↥ps g:=by rw[n9 hp,aa]
  have a2:=af r.b ro.b (ps.drop (↥ps-↥r.b)) g q1;cases e2:a1q H.cs r.b (ps.drop (↥ps-↥r.b)) with
  |false=>
   rw[e2] at a2;simp![i2,Z6,l2,sb,mx,b0z hp,a2,Bool.not_false];exact b2m (q1.app _) rfl
  |true=>
   rw[e2] at a2;rw[seq (by simp![i2,Z6,l2,sb,mx,b0z hp,a2,Bool.not_true];rfl)];have q2:=q1.app [.lst ((ps.drop (↥ps-↥r.b)).map clD)];have hw:=b6 (g:=[.lst ((ps.drop (↥ps-↥r.b)).map clD)]) hw;generalize g++[Cell.lst ((ps.drop (↥ps-↥r.b)).map clD)]=g2 at q2 hw⊢;have a3:=af r.a ro.a ((cells.drop (i+↥r.c)).take ↥r.a) g2 q2;simp![i4,Z6,b3l,a8j hw,a3];exact b2m (q2.app _) rfl
end
noncomputable def a2e(p:List Int×Int)(c:Cl):List Int×Int:=match c.2 with
 |[]=>(p.1++[p.2],p.2)
 |x::r=>(p.1++[x],(x::r).getLastD 0)
def hmI(cs:List Cl):List Int:=(cs.foldl a2e ([],0)).1
def HdL:List Cl->Prop
 |[]=>True
 |c::_=>c.2≠[]
theorem a8M:∀(cs:List Cl) (q:List Int×Int),cs.foldl G9 (q.1.map .int,.int q.2)=((cs.foldl a2e q).1.map .int,.int (cs.foldl a2e q).2)
 |[],q=>rfl
 |c::r,q=>by rw[foldl_cons,foldl_cons,←a8M r (a2e q c)];congr 1;unfold G9 a2e;cases c.2<;>simp
theorem b7Q{cs:List Cl}(h:HdL cs):hmD cs=(hmI cs).map .int:=by
 cases cs with
 |nil=>rfl
 | cons c r=>
  unfold hmD hmI;rw[foldl_cons,foldl_cons];have e:G9 ([],.non) c=(([a2e ([],0) c].flatMap (·.1)).map .int,.int (a2e ([],0) c).2):=by
   unfold G9 a2e;have h:c.2≠[]:=h;cases q:c.2 with
   |nil=>exact absurd q h
   |cons x t=>simp
  rw[e,List.flatMap_singleton,a8M]
def a5G(H:HL)(ss:List Sg)(r:Ru)(ps cells:List Cl)(i:Nat)(c:Cl):Bool:=(decide (c.1∈a1c H.cs (r.c.headD ""))&&a6E H.cs r ps cells i)&&(((hmI cells).drop i).take ↥r.c).all (a1D H.fe ss r.f)
def dnL(H:HL)(ss:List Sg)(r:Ru)(cells:List Cl):Nat->Nat->List Cl->Nat->List Cl×Nat
 |0,_,ps,n=>(ps,n)
 |m+1,i,ps,n=>match cells[i]? with
  |none=>(ps,n)
  |some c=>if a5G H ss r ps cells i c=true then dnL H ss r cells m (i+↥r.c) (ps++T2 r.o ((cells.drop i).take ↥r.c)) (n+1) else dnL H ss r cells m (i+1) (ps++[c]) n
def J8(H:HL)(ss:List Sg)(cells:List Cl)(r:Ru):List Cl×Nat:=dnL H ss r cells ↥cells 0 [] 0
theorem b0u(o:List Str)(cs:List Cl):o7 (T2 o cs)=o7 cs:=by
 have:∀l:List Str,((l.map λs=>((s,[]):Cl)).map (·.2)).flatten=[]:=λl=>by
  induction l with
  |nil=>rfl
  |cons a t ih=>rw[map_cons,map_cons,List.flatten_cons,ih];rfl
 show o7 cs++(((o.drop 1).map λs=>((s,[]):Cl)).map (·.2)).flatten=_;rw[this,bc]
theorem a1C(a b:List Cl):o7 (a++b)=o7 a++o7 b:=by unfold o7;rw[aq,List.flatten_append]
theorem b4K(cs:List Cl)(i m:Nat):↥(o7 ((cs.drop i).take m))<=↥(o7 cs):=by
 have:=a7F (cs.drop i) m;have e:o7 cs=o7 (cs.take i)++o7 (cs.drop i):=by rw[←a1C,take_append_drop]
 rw[e,au];ac_nf
theorem b1V{a b:List Cl}(h1:HdL a)(h2:a=[]->HdL b):HdL (a++b):=by
 cases a with
 |nil=>exact h2 rfl
 |cons x t=>exact h1
theorem a7U {H:HL} {ss:List Sg} {r:Ru} {cells:List Cl} (hc:1<=↥r.c) (h3:↥r.o<=3) (ho:HdL cells):∀(m i:Nat) (ps:List Cl) (n:Nat),↥cells<=i+m->HdL ps->(ps=[]->i=0)->o7 (dnL H ss r cells m i ps n).1=o7 ps++o7 (cells.drop i)/\HdL (dnL H ss r cells m i ps n).1/\(dnL H ss r cells m i ps n).1.length<=↥ps+3*(↥cells-i)
 |0,i,ps,n,hm,hp,_=>by rw[List.drop_of_length_le nofun];exact⟨(bc _).symm,hp,by show ↥ps<=_;ac_nf⟩
 | m + 1,i,ps,n,hm,hp,he=>by
  unfold dnL;cases e:cells[i]? with
  |none=>
   have:=List.getElem?_eq_none_iff.mp e;rw[List.drop_of_length_le nofun];exact⟨(bc _).symm,hp,by show ↥ps<=_;ac_nf⟩
  | some c=>
   obtain⟨hi,rfl⟩:=ac.mp e;have h0:ps=[]->cells[i].2≠[]:=λz=>by
    have z:=he z;subst z;cases cells with
    |nil=>cases hi
    |cons a t=>exact ho
   simp only;split
   · have hd:HdL (ps++T2 r.o ((cells.drop i).take ↥r.c)):=b1V hp λz=>by show o7 _≠[];obtain⟨m',hm'⟩:∃m',↥r.c=m'+1:=⟨↥r.c-1,by ac_nf⟩;rw[hm',drop_eq_getElem_cons hi,List.take_succ_cons];show cells[i].2++_≠[];have:=h0 z;intro q;exact this (List.append_eq_nil_iff.mp q).1
     obtain⟨a1,a2,a3⟩:=a7U (ss:=ss) hc h3 ho m (i+↥r.c) (ps++T2 r.o ((cells.drop i).take ↥r.c)) (n+1) nofun hd (λz=>by have:=(List.append_eq_nil_iff.mp z).2;cases this)
     refine⟨?_,a2,?_⟩
     · rw[a1,a1C,b0u,aB,←a1C,←List.drop_drop,take_append_drop]
     · refine aU a3 ?_;rw[au];have:↥(T2 r.o ((cells.drop i).take ↥r.c))=1+(↥r.o-1):=by unfold T2;rw[length_cons,aa,bB];ac_nf
       ac_nf
   · have hd:HdL (ps++[cells[i]]):=b1V hp λz=>h0 z;obtain⟨a1,a2,a3⟩:=a7U (ss:=ss) hc h3 ho m (i+1) (ps++[cells[i]]) n nofun hd (λz=>by have:=(List.append_eq_nil_iff.mp z).2;cases this)
     refine⟨?_,a2,?_⟩
     · rw[a1,a1C,aB,←a1C,drop_eq_getElem_cons hi];rfl
     · refine aU a3 ?_;rw[au,length_singleton];ac_nf
theorem b2T{H:HL}{r:Ru}(hc:1<=↥r.c)(h3:↥r.o<=3)(ho:HdL cells):o7 (J8 H ss cells r).1=o7 cells/\HdL (J8 H ss cells r).1/\(J8 H ss cells r).1.length<=3*↥cells:=by obtain⟨a,b,c⟩:=a7U (H:=H) (ss:=ss) hc h3 ho ↥cells 0 [] 0 nofun trivial (λ_=>rfl);refine⟨a,b,?_⟩;rw[length_nil] at c;unfold J8;ac_nf
theorem b4F(e:h[n]? =some (.lst xs)):mtT .extend h (.ref n)=true:=by simp only[mtT,rdL,e,Option.isSome_some]
theorem b7U{k:Nat}{ys:List D}(e1:h[n]? =some (.lst xs))(e2:h[k]? =some (.lst ys))(hl:↥xs+↥ys<=1000000):mtD .extend h (.ref n) [.ref k]=.ok .non (h.set n (.lst (xs++ys))):=by simp only[mtD,e1,e2];rw[az (show ↥xs+↥ys<=16777216 by ac_nf)]
theorem HallAt.pf{H:HD}(A:HallAt h n H)(q:Pf h g):HallAt g n H:=⟨q.at A.o,q.at A.c1,q.at A.c2,q.at A.c3,q.at A.c4,q.at A.c5,q.at A.c6,q.at A.c7,q.at A.c8⟩
structure DF(F:Nat->Option Fn):Prop where
 f38:F 38=some a1h
 f39:F 39=some z8
 f40:F 40=some a7S
 f41:F 41=some T6
 f42:F 42=some V7
 f43:F 43=some R4
 f44:F 44=some X3
 f45:F 45=some J5
 f46:F 46=some a1K
 f47:F 47=some L7
variable{hm:List Int}{e10:Option D}
section
variable{ct:CT}{F:Nat->Option Fn}{H:HL}
structure DSt(h g:AH)(ps:List Cl)(hm:List Int):Prop where
 pf:Pf h g
 p:g[↥h]? =some (.lst (ps.map clD))
 q:g[↥h+1]? =some (.lst (hm.map .int))
theorem DSt.app(S:DSt h g ps hm)(t:AH):DSt h (g++t) ps hm:=⟨S.pf.app t,b6 S.p,b6 S.q⟩
theorem DSt.put{qs:List Cl}(S:DSt h g ps hm):DSt h (g.set ↥h (.lst ((ps++qs).map clD))) (ps++qs) hm:=⟨S.pf.set (aj _),w6 S.p,b9 nofun S.q⟩
theorem a6b{o:List Str}(h1:1<=↥o):(∀h,ixD h (.tup (o.map .str)) (.int 0)=.ok (.str (o.headD "")) h)/\(∀h,slD h (some 1) none (.tup (o.map .str))=.ok (.tup ((o.drop 1).map .str)) h):=by
 cases o with
 |nil=>cases h1
 | cons x t=>
  refine⟨λh=>ix_tup (i:=0) rfl,λh=>?_⟩;have c:=M1 1 ((x::t).map D.str);rw[←map_drop] at c;have n0:¬(HT.sIx ↥((x::t).map D.str) 0 (some 1)=0/\HT.sIx ↥((x::t).map D.str) ↥((x::t).map D.str) none=↥((x::t).map D.str)):=λz=>by have z:=z.1;unfold HT.sIx at z;simp only at z;rw[aA nofun] at z;have z:min 1 ↥((x::t).map D.str)=0:=z;rw[aa,length_cons] at z;ac_nf
  show(if HT.sIx ↥((x::t).map D.str) 0 (some 1)=0/\HT.sIx ↥((x::t).map D.str) ↥((x::t).map D.str) none=↥((x::t).map D.str) then R.no else R.ok (D.tup (P9 ((x::t).map D.str) (some 1) none)) h)=_;rw[aA n0];exact congrArg (λl=>R.ok (D.tup l) h) c
variable(W:PF F)(Q:DF F)
include W Q
theorem a9Z{k s i cnt:Nat}{r:Ru}{T:D}{e9:Option D}(hT:T=.tup ((a1c H.cs (r.c.headD "")).map .str))(K:HLok H)(A:HallAt h n (M4 H))(ro:RuOk H.sh H.cs H.fe r)(hw:h[w]? =some (.lst (cells.map clD)))(hs:h[s]? =some (.lst (ss.map sgD)))(hl:↥cells<=100000)(hL:↥(o7 cells)<=1000)(hp:↥ps<=3*i)(S:DSt h g ps (hmI cells))(hi:i<↥cells):
 ∃g' e9' dZ,exs ct (b5 ct F (k+5)) dnB [~~~n,some (ruD r),~~~w,~~~s,~~~↥h,some (.ref (↥h+1)),some T,i⁻¹,cnt⁻¹,e9,e10] g=
  .ok (.nx [~~~n,some (ruD r),~~~w,~~~s,~~~↥h,some (.ref (↥h+1)),some T,some ⇑(if a5G H ss r ps cells i cells[i]=true then i+↥r.c else i+1),some ⇑(if a5G H ss r ps cells i cells[i]=true then cnt+1 else cnt),e9',dZ]) g'/\DSt h g' (if a5G H ss r ps cells i cells[i]=true then ps++T2 r.o ((cells.drop i).take ↥r.c) else ps++[cells[i]]) (hmI cells):=by
 obtain⟨i1,i2,i3,i4,i5⟩:(∀h,_)/\(∀h,_)/\(∀h,_)/\(∀h,_)/\(∀h,_):=⟨λh=>(a1v r h).1,λh=>(a1v r h).2.1,λh=>(a1v r h).2.2.1,λh=>(a1v r h).2.2.2.1,λh=>(a1v r h).2.2.2.2⟩;have fi:=a6D (ct:=ct) (k:=k) (i:=i) W Q.f38 Q.f39 Q.f42 Q.f41 K (A.pf S.pf) ro S.p (S.pf.at hw);have c0:ixD g (.ref w) ⇑i=.ok (clD cells[i]) g:=r8 (S.pf.at hw) (by rw[ak,ai hi];rfl);have inT:op2 .isin g (.str cells[i].1) T=.ok (.bl (decide (cells[i].1∈a1c H.cs (r.c.headD "")))) g:=by subst hT;simp only[op2,M8];rw[az (by rw[a2h];rfl),a2U];simp
 have hsl:slD g (some (i:Int)) (some ((i+↥r.c:Nat):Int)) (.ref (↥h+1))=.ok (.ref ↥g) (g++[.lst ((((hmI cells).drop i).take ↥r.c).map .int)]):=by rw[K6 S.q,a5J,←map_drop,←map_take]
 have c4:=ro.c4;have o3:=ro.o3;have S1:=S.app [.lst ((((hmI cells).drop i).take ↥r.c).map .int)];have oa:=b1u (ct:=ct) (k:=k+3) (ls:=((hmI cells).drop i).take ↥r.c) Q.f46 Q.f47 (A.pf S1.pf) (S1.pf.at hs) b7 ro.fe (by rw[aO];ac_nf);generalize ruD r=rr at i1 i2 i3 i4 i5 fi⊢;have apC:∀(g:AH),DSt h g ps (hmI cells)->∀e9 e10,exs ct (b5 ct F (k+5)) b8i [~~~n,some rr,~~~w,~~~s,~~~↥h,some (.ref (↥h+1)),some T,i⁻¹,cnt⁻¹,e9,e10] g=.ok (.nx [~~~n,some rr,~~~w,~~~s,~~~↥h,some (.ref (↥h+1)),some T,some ⇑(i+1),cnt⁻¹,e9,e10]) (g.set ↥h (.lst ((ps++[cells[i]]).map clD))):=λg S e9 e10=>by have c0:ixD g (.ref w) ⇑i=.ok (clD cells[i]) g:=r8 (S.pf.at hw) (by rw[ak,ai hi];rfl);unfold b8i;simp![D3 S.p,c0,K0 S.p (by rw[aa];ac_nf),b3l (j:=1)];rw[aq];rfl
 unfold dnB;rw[seq (by simp![i3,Z6,b3l];rfl)];rw[seq (bI:=[~~~n,some rr,~~~w,~~~s,~~~↥h,some (.ref (↥h+1)),some T,i⁻¹,cnt⁻¹,some ⇑(i+↥r.c),some (.bl (decide (cells[i].1∈a1c H.cs (r.c.headD ""))&&a6E H.cs r ps cells i))]) (h':=g) (by
  cases e:decide (cells[i].1∈a1c H.cs (r.c.headD "")) with
  |false=>
   rw[e] at inT;simp![c0,a1O.1,inT,Bool.false_and]
  |true=>
   rw[e] at inT;simp![c0,a1O.1,inT,fi,Bool.true_and])]
 unfold a5G;cases e1:decide (cells[i].1∈a1c H.cs (r.c.headD ""))&&a6E H.cs r ps cells i with
 |false=>
  rw[aA ⋯,aA ⋯,aA ⋯];refine⟨_,some ⇑(i+↥r.c),some (.bl false),?_,S.put⟩;simp![apC g S]
 | true=>
  cases e2:(((hmI cells).drop i).take ↥r.c).all (a1D H.fe ss r.f) with
  |false=>
   rw[e2] at oa;rw[aA ⋯,aA ⋯,aA ⋯];refine⟨_,some ⇑(i+↥r.c),some (.bl true),?_,S1.put⟩;simp![i1,hsl,oa,apC _ S1]
  | true=>
   rw[e2] at oa;simp only[Bool.and_self,if_true];have S2:=S1.app [.lst (((cells.drop i).take ↥r.c).map clD)];obtain⟨t0,t1⟩:=a6b o3.1;have tc:=b6r (ct:=ct) (k:=k+4) (w:=↥(g++[Cell.lst ((((hmI cells).drop i).take ↥r.c).map .int)])) (cs:=(cells.drop i).take ↥r.c) (h:=g++[.lst ((((hmI cells).drop i).take ↥r.c).map .int)]++[.lst (((cells.drop i).take ↥r.c).map clD)]) Q.f43 t0 t1 (by rw[bB];ac_nf) b7 (by have:=b4K cells i ↥r.c;ac_nf);have S3:=S2.app [.lst ((T2 r.o ((cells.drop i).take ↥r.c)).map clD)];have sl2:=a8j (i:=i) (m:=↥r.c) (S1.pf.at hw);have tcl:↥(T2 r.o ((cells.drop i).take ↥r.c))<=3:=by unfold T2;rw[length_cons,aa,bB];ac_nf
   have ex:=b7U S3.p (k:=↥(g++[Cell.lst ((((hmI cells).drop i).take ↥r.c).map .int)]++[Cell.lst (((cells.drop i).take ↥r.c).map clD)])) b7 (by rw[aa,aa];ac_nf);have mt:=b4F S1.p;refine⟨_,some ⇑(i+↥r.c),some (.bl true),?_,S3.put⟩;rw[aq];change b5 ct F (k+4+1) 43 _ _=.ok _ (_++[.lst ((T2 r.o ((cells.drop i).take ↥r.c)).map clD)]) at tc;generalize T2 r.o ((cells.drop i).take ↥r.c)=tcs at*
   have b1:exs ct (b5 ct F (k+5)) b8j [~~~n,some rr,~~~w,~~~s,~~~↥h,some (.ref (↥h+1)),some T,i⁻¹,cnt⁻¹,some ⇑(i+↥r.c),some (.bl true)] (g++[.lst ((((hmI cells).drop i).take ↥r.c).map .int)])=.ok (.nx [~~~n,some rr,~~~w,~~~s,~~~↥h,some (.ref (↥h+1)),some T,some ⇑(i+↥r.c),some ⇑(cnt+1),some ⇑(i+↥r.c),some (.bl true)]) ((g++[Cell.lst ((((hmI cells).drop i).take ↥r.c).map .int)]++[Cell.lst (((cells.drop i).take ↥r.c).map clD)]++[Cell.lst (tcs.map clD)]).set ↥h (.lst (ps.map clD++tcs.map clD))):=by unfold b8j;simp![mt,i5,sl2,tc,ex,b3l (j:=1)];rfl
   simp![i1,hsl,oa,b1]
theorem a3O{k n w s:Nat}{r:Ru}{cells:List Cl}{ss:List Sg}{h:AH}{T:D}(hT:T=.tup ((a1c H.cs (r.c.headD "")).map .str))(K:HLok H)(A:HallAt h n (M4 H))(ro:RuOk H.sh H.cs H.fe r)(hw:h[w]? =some (.lst (cells.map clD)))(hs:h[s]? =some (.lst (ss.map sgD)))(hl:↥cells<=100000)(hL:↥(o7 cells)<=1000):∀(m i cnt fuel:Nat) (ps:List Cl) (g:AH) (e9 e10:Option D),↥cells<=i+m->m<fuel->↥ps<=3*i->DSt h g ps (hmI cells)→
 ∃g' e7 e9' dZ,a5W (tst ct (b5 ct F (k+5)) dnT) (exs ct (b5 ct F (k+5)) dnB) fuel [~~~n,some (ruD r),~~~w,~~~s,~~~↥h,some (.ref (↥h+1)),some T,i⁻¹,cnt⁻¹,e9,e10] g=
  .ok (.nx [~~~n,some (ruD r),~~~w,~~~s,~~~↥h,some (.ref (↥h+1)),some T,e7,some (.int ((dnL H ss r cells m i ps cnt).2:Int)),e9',dZ]) g'/\DSt h g' (dnL H ss r cells m i ps cnt).1 (hmI cells)
 |m,i,cnt,0,ps,g,e9,e10,_,hf,_,_=>absurd hf nofun
 | m, i,cnt,f+1,ps,g,e9,e10,hm,hf,hp,S=>by
  have l2:biD .len g [.ref w]=.ok ⇑↥cells g:=by rw[n9 (S.pf.at hw),aa]
  have lt:op2 .lt g ⇑i ⇑↥cells=.ok (.bl (decide (i<↥cells))) g:=by show R.ok (D.bl (decide ((i:Int)<(↥cells:Int)))) g=_;congr 2;exact decide_eq_decide.mpr ⟨λe=>by ac_nf,λe=>by ac_nf⟩
  have t:tst ct (b5 ct F (k+5)) dnT [~~~n,some (ruD r),~~~w,~~~s,~~~↥h,some (.ref (↥h+1)),some T,i⁻¹,cnt⁻¹,e9,e10] g=.ok (decide (i<↥cells)) g:=by unfold dnT;simp![l2,lt]
  rw[a5W,t,d9]
  by_cases hi:i<↥cells
  · rw[az (bf hi)];obtain⟨m,rfl⟩:∃m',m=m'+1:=⟨m-1,by ac_nf⟩;obtain⟨g',e9',dZ,q1,q2⟩:=a9Z (ct:=ct) (k:=k) (cnt:=cnt) (e9:=e9) (e10:=e10) W Q hT K A ro hw hs hl hL hp S hi;rw[q1,d9];have c4:=ro.c4;have o3:=ro.o3;have e:dnL H ss r cells (m+1) i ps cnt=(if a5G H ss r ps cells i cells[i]=true then dnL H ss r cells m (i+↥r.c) (ps++T2 r.o ((cells.drop i).take ↥r.c)) (cnt+1) else dnL H ss r cells m (i+1) (ps++[cells[i]]) cnt):=by rw[dnL,ai hi]
    rw[e]
    by_cases on:a5G H ss r ps cells i cells[i]=true
    · simp only[az on] at q2⊢;refine a3O hT K A ro hw hs hl hL m (i+↥r.c) (cnt+1) f _ g' e9' dZ nofun nofun ?_ q2;rw[au];unfold T2;rw[length_cons,aa,bB];ac_nf
    · simp only[aA on] at q2⊢;exact a3O hT K A ro hw hs hl hL m (i+1) cnt f _ g' e9' dZ nofun nofun (by rw[au,length_singleton];ac_nf) q2
  · rw[aA (by rw[bA hi];decide)];have e:dnL H ss r cells m i ps cnt=(ps,cnt):=by
     cases m with
     |zero=>rfl
     |succ m=>rw[dnL,List.getElem?_eq_none_iff.mpr nofun]
    rw[e];exact⟨g,_,_,_,rfl,S⟩
theorem b5v{k s:Nat}{r:Ru}(K:HLok H)(A:HallAt h n (M4 H))(ro:RuOk H.sh H.cs H.fe r)(hw:h[w]? =some (.lst (cells.map clD)))(hs:h[s]? =some (.lst (ss.map sgD)))(cP:∀p∈ss,p.f∈H.fe.map (·.1))(hl:↥cells<=100000)(hL:↥(o7 cells)<=1000)(ho:HdL cells):
 ∃g,b5 ct F (k+6) 40 [.ref n,ruD r,.ref w,.ref s] h=.ok (.tup [.ref ↥h,.int ((J8 H ss cells r).2:Int)]) g/\Pf h g/\g[↥h]? =some (.lst ((J8 H ss cells r).1.map clD)):=by
 have c4:=ro.c4;have cf:=a4J (ct:=ct) (k:=k+4) Q.f45 A hs cP;have hm:=b1U (ct:=ct) (k:=k+4) (h:=h++[.lst []]) Q.f44 (b6 hw) hl;rw[b7Q ho,show(h++[Cell.lst []]).length=h.length+1 by simp] at hm;have S:DSt h (h++[.lst []]++[.lst ((hmI cells).map .int)]) [] (hmI cells):=⟨((Pf.refl h).app _).app _,b6 b7,by rw[show h.length+1=(h++[Cell.lst []]).length by simp];exact b7⟩;have rc:∀h,ixD h (.tup (r.c.map .str)) (.int 0)=.ok (.str (r.c.headD "")) h:=(a6b c4.1).1;have hm0:r.c.headD ""∈r.c:=by
  cases e:r.c with
  |nil=>rw[e] at c4;exact absurd c4.1 ∅
  |cons a t=>exact .head _
 have fs:=(b2w (ct:=ct) (k:=k+3) (s:="") W Q.f38 Q.f39 K (A.pf S.pf) (ro.c _ hm0)).2;have i3:=λh=>(a1v r h).2.2.1;obtain⟨g',e7,e9,e10,q1,q2⟩:=a3O (ct:=ct) (k:=k) W Q rfl K A ro hw hs hl hL ↥cells 0 0 a7k [] _ none none nofun (by show _<1000000;ac_nf) (Nat.zero_le _) S;refine⟨g',?_,q2.pf,q2.p⟩;rw[i6 Q.f40 rfl,a7S];rw[gc0];generalize ruD r=rr at i3 q1⊢;rw[seq (by simp![cf];rfl)];rw[seq (by simp![v8];rfl)];rw[seq (by simp![hm];rfl)];rw[seq (by simp![i3,rc,fs];rfl)];rw[seq (by simp![];rfl)];rw[seq (by simp![];rfl)];rw[show((0:Nat):Int)=0 from rfl] at q1;rw[seq (b7V.trans q1)];simp![az (show 2<=SL by decide)];rfl
end
noncomputable def fcL:Nat->List Str->List Cl
 |_,[]=>[]
 |i,s::r=>(s,[(i:Int)])::fcL (i+1) r
noncomputable def fcF(x:D):D:=match x with
 |.tup [a,b]=>.tup [b,.tup [a]]
 |_=>.non
theorem b2B:∀(fs:List Str) (i:Nat),(u5 i (fs.map .str)).map fcF=(fcL i fs).map clD
 |[],_=>rfl
 |s::r,i=>by rw[map_cons,u5,map_cons,b2B r (i+1)];rfl
theorem a7Q:∀(fs:List Str) (i:Nat),↥(fcL i fs)=↥fs/\↥(o7 (fcL i fs))=↥fs
 |[],_=>⟨rfl,rfl⟩
 |s::r,i=>by obtain⟨a,b⟩:=a7Q r (i+1);refine⟨by rw[fcL,length_cons,a];rfl,?_⟩;show((i:Int)::o7 (fcL (i+1) r)).length=_;rw[length_cons,b];rfl
theorem c0t(fs:List Str)(i:Nat):HdL (fcL i fs):=by
 cases fs with
 |nil=>trivial
 |cons s r=>exact cons_ne_nil _ _
theorem b2S:∀{l:List Str} {i:Nat} {x:D},x∈u5 i (l.map .str)->∃(j:Nat) (s:Str),x=.tup [.int (j:Int),.str s]
 |s::r,i,x,h=>by
  rw[map_cons,u5] at h;rcases aH.mp h with rfl|h
  · exact⟨i,s,rfl⟩
  · exact b2S h
theorem a5F:∀(l:List D) (i:Nat),↥(u5 i l)=↥l
 |[],_=>rfl
 |x::r,i=>by rw[u5,length_cons,length_cons,a5F r]
def shF(H:HL)(ss:List Sg):List Ru->List Cl->List Nat->List Cl×List Nat
 |[],cs,ns=>(cs,ns)
 |r::t,cs,ns=>shF H ss t (J8 H ss cs r).1 (ns++[(J8 H ss cs r).2])
abbrev nsD(ns:List Nat):List D:=ns.map λi:Nat=>D.int (i:Int)
variable{h1:AH}
section
variable{ct:CT}{F:Nat->Option Fn}{H:HL}
theorem a6O{fs:List Str}(ha:ev ct c a env h=.ok (.ref w) h1)(hw:h1[w]? =some (.lst (fs.map .str)))(hl:↥fs<=1000):ev ct c (frE a) env h=.ok (.ref ↥h1) (h1++[.lst ((fcL 0 fs).map clD)]):=by
 unfold frE;rw[o6 (l:=u5 0 (fs.map .str)) (g:=[(w,.lst (fs.map .str))]) (h1:=h1) (by rw[a6Q,ha,d9];simp only[T8,hw]) (by simp only[gOk,all_cons,all_nil,hw];simp) fcF (λx=>match x with
  |.tup [a,b]=>[some a,some b]
  |_=>[]) (λx hx=>by
  obtain⟨j,s,rfl⟩:=b2S hx;refine⟨rfl,?_⟩;simp![az (show 2<=SL by decide),az (show 1<=SL by decide)];rfl) (by rw[a5F,aa];show _<=16777216;ac_nf),b2B]
theorem b2y{k:Nat}{fs:List Str}(hF:F 49=some F8)(hw:h[w]? =some (.lst (fs.map .str)))(hl:↥fs<=1000):b5 ct F (k+1) 49 [.ref w] h=.ok (.ref ↥h) (h++[.lst ((fcL 0 fs).map clD)]):=by rw[i6 hF rfl];simp only[F8];show gcR 2 h (a4e (exs ct (b5 ct F k) (.o (.ret (frE (.v 0)))) [~~~w] h))=_;rw[K4,a1i,a6O (h1:=h) (w:=w) (by simp![]) hw hl];exact gc2 b7 (aj _) (a9a _)
theorem b1e{a t:Nat}(h:a*3^(t+1)<=100000)(hb:b<=3*a):b*3^t<=100000:=by refine aU (Nat.mul_le_mul_right _ hb) ?_;rw[Nat.pow_succ] at h;rw[Nat.mul_comm 3 a,Nat.mul_assoc,Nat.mul_comm 3];exact h
theorem b6S{a t:Nat}(h:a*3^t<=100000):a<=100000:=aU (Nat.le_mul_of_pos_right _ (Nat.pow_pos ∅)) h
theorem a3p(A:HallAt h n (M4 H)):h[n+8]? =some (.lst (H.ru.map ruD)):=by rw[A.c8];show some (Cell.lst (rd (EV.hR H.ru)))=_;unfold rd EV.hR;rw[aK];rfl
variable(W:PF F)(Q:DF F)
include W Q
theorem a8k{k n s cc:Nat}{l:D}{ss:List Sg}{h:AH}(K:HLok H)(A:HallAt h n (M4 H))(hs:h[s]? =some (.lst (ss.map sgD)))(cP:∀p∈ss,p.f∈H.fe.map (·.1))(hc:↥h<=cc):∀(rs:List Ru) (cells:List Cl) (ns:List Nat) (w:Nat) (g:AH) (e5 e6:Option D),(∀r∈rs,r∈H.ru)->Pf h g->g[w]? =some (.lst (cells.map clD))->g[cc]? =some (.lst (nsD ns))->↥h<=w->w≠cc->↥cells*3^↥rs<=100000->↥(o7 cells)<=1000->HdL cells->↥ns+↥rs<=1000→
 ∃g' w' eZ e6',K8 [(n+8,.lst (H.ru.map ruD))] (.nm 5) (exs ct (b5 ct F (k+6)) shB) (rs.map ruD) [~~~n,some l,~~~s,~~~w,~~~cc,e5,e6] g=.ok (.nx [~~~n,some l,~~~s,~~~w',~~~cc,eZ,e6']) g'/\Pf h g'/\g'[w']? =some (.lst ((shF H ss rs cells ns).1.map clD))/\g'[cc]? =some (.lst (nsD (shF H ss rs cells ns).2))/\↥h<=w'/\w'≠cc
 |[],cells,ns,w,g,e5,e6,_,P,hw,dD,h1,h2,_,_,_,_=>⟨g,w,e5,e6,by rw[map_nil,K8,az (by simp only[gOk,all_cons,all_nil,P.at (a3p A)];simp)],P,hw,dD,h1,h2⟩
 | r::t,cells,ns,w,g,e5,e6,hrs,P,hw,dD,h1,h2,hl,hL,ho,hn=>by
  rw[length_cons] at hl hn;have ro:=K.ruo r (hrs r (.head _));obtain⟨g1,q1,q2,q3⟩:=b5v (ct:=ct) (k:=k) W Q K (A.pf P) ro hw (P.at hs) cP (b6S hl) hL ho;obtain⟨a1,a2,a3⟩:=b2T (H:=H) (ss:=ss) ro.c4.1 ro.o3.2 ho;have gl:cc<↥g:=(ac.mp dD).1;have c1:=q2.at dD;have P1:Pf h (g1.set cc (.lst (nsD (ns++[(J8 H ss cells r).2])))):=(P.trans q2).set hc;obtain⟨g',w',eZ,e6',b⟩:=a8k (k:=k) (l:=l) K A hs cP hc t (J8 H ss cells r).1 (ns++[(J8 H ss cells r).2]) ↥g (g1.set cc (.lst (nsD (ns++[(J8 H ss cells r).2])))) (some (ruD r)) (some (.tup [.ref ↥g,.int ((J8 H ss cells r).2:Int)])) (λx hx=>hrs x (.tail _ hx)) P1 (b9 nofun q3) (w6 c1) P.len nofun (b1e hl a3) (by rw[a1];exact hL) a2 (by rw[au,length_singleton];ac_nf);refine⟨g',w',eZ,e6',?_,b.2⟩;rw[map_cons,K8,az (by simp only[gOk,all_cons,all_nil,P.at (a3p A)];simp)];show(exs ct (b5 ct F (k+6)) shB [~~~n,some l,~~~s,~~~w,~~~cc,some (ruD r),e6] g).bind _=_;have ap:=K0 (d:=.int ((J8 H ss cells r).2:Int)) c1 (by rw[aa];ac_nf);have bd:exs ct (b5 ct F (k+6)) shB [~~~n,some l,~~~s,~~~w,~~~cc,some (ruD r),e6] g=.ok (.nx [~~~n,some l,~~~s,~~~↥g,~~~cc,some (ruD r),some (.tup [.ref ↥g,.int ((J8 H ss cells r).2:Int)])]) (g1.set cc (.lst (nsD (ns++[(J8 H ss cells r).2])))):=by unfold shB;have t0:∀h,ixD h (.tup [.ref ↥g,.int ((J8 H ss cells r).2:Int)]) (.int 0)=.ok (.ref ↥g) h:=λh=>ix_tup (i:=0) rfl;have t1:∀h,ixD h (.tup [.ref ↥g,.int ((J8 H ss cells r).2:Int)]) (.int 1)=.ok (.int ((J8 H ss cells r).2:Int)) h:=λh=>ix_tup (i:=1) rfl;simp![q1,t0,t1,D3 c1,ap];rw[show nsD (ns++[(J8 H ss cells r).2])=nsD ns++[.int ((J8 H ss cells r).2:Int)] by unfold nsD;rw[aq];rfl]
  rw[bd,d9];exact b.1
theorem a9r{k l s:Nat}(f33:F 33=some B6)(f34:F 34=some N3)(f35:F 35=some C0)(f36:F 36=some C9)(f37:F 37=some E7)(f48:F 48=some a0g)(f49:F 49=some F8)(K:HLok H)(A:HallAt h n (M4 H))(hr:h[l]? =some (.lst (row.map .str)))(hx:∀x∈row,x∈H.ls.map (·.n))(hl:row.length<=63)(hs:h[s]? =some (.lst (ss.map sgD)))(cP:∀p∈ss,p.f∈H.fe.map (·.1))(hp:row.length*3^↥H.ru<=100000):
 ∃g w c,b5 ct F (k+7) 48 [.ref n,.ref l,.ref s] h=.ok (.tup [.ref w,.ref c]) g/\Pf h g/\g[w]? =some (.lst ((shF H ss H.ru (fcL 0 (j0 H.ls row)) []).1.map clD))/\g[c]? =some (.lst (nsD (shF H ss H.ru (fcL 0 (j0 H.ls row)) []).2))/\↥h<=w/\↥h<=c/\w≠c:=by
 have fl:↥(j0 H.ls row)=row.length:=by unfold j0;rw[aa,aL]
 obtain⟨c1,c2⟩:=a7Q (j0 H.ls row) 0;have fo:=a7R (ct:=ct) (k:=k+3) f33 f34 f35 f36 f37 K A hr hx hl;have fi:=b2y (ct:=ct) (k:=k+5) (w:=↥h) (h:=h++[.lst ((j0 H.ls row).map .str)]) f49 b7 nofun;have P:Pf h (h++[.lst ((j0 H.ls row).map .str)]++[.lst ((fcL 0 (j0 H.ls row)).map clD)]++[.lst []]):=(((Pf.refl h).app _).app _).app _;have ln:↥h+1=↥(h++[Cell.lst ((j0 H.ls row).map .str)]):=by simp
 have hw:(h++[Cell.lst ((j0 H.ls row).map .str)]++[.lst ((fcL 0 (j0 H.ls row)).map clD)]++[.lst []])[↥h+1]? =some (.lst ((fcL 0 (j0 H.ls row)).map clD)):=by rw[ln];exact b6 b7
 have ln2:↥h+2=↥(h++[Cell.lst ((j0 H.ls row).map .str)]++[Cell.lst ((fcL 0 (j0 H.ls row)).map clD)]):=by simp
 have hc:(h++[Cell.lst ((j0 H.ls row).map .str)]++[.lst ((fcL 0 (j0 H.ls row)).map clD)]++[.lst []])[↥h+2]? =some (.lst (nsD [])):=by rw[ln2];exact b7
 have rul:=K.rul;obtain⟨g,w,e5,e6,q1,q2,q3,q4,q5,q6⟩:=a8k (k:=k) (cc:=↥h+2) (l:=.ref l) W Q K A hs cP nofun H.ru (fcL 0 (j0 H.ls row)) [] (↥h+1) _ none none (λ_ h=>h) P hw hc nofun nofun (by rw[c1,fl];exact hp) (by rw[c2];ac_nf) (c0t _ _) (by rw[length_nil];ac_nf);refine⟨g,w,↥h+2,?_,q2,q3,q4,q5,by ac_nf,q6⟩;have cf:=a4J (ct:=ct) (k:=k+5) (h:=h++[.lst ((j0 H.ls row).map .str)]++[.lst ((fcL 0 (j0 H.ls row)).map clD)]) Q.f45 ((A.app _).app _) (b6 (b6 hs)) cP;rw[i6 f48 rfl,a0g];rw[gc0];rw[seq (bI:=[~~~n,~~~l,~~~s,some (.ref (↥h+1)),none,none,none]) (h':=h++[.lst ((j0 H.ls row).map .str)]++[.lst ((fcL 0 (j0 H.ls row)).map clD)]) (by simp![fo,fi];rw[ln])]
 rw[seq (by simp![cf];rfl)];rw[seq (bI:=[~~~n,~~~l,~~~s,some (.ref (↥h+1)),some (.ref (↥h+2)),none,none]) (h':=h++[.lst ((j0 H.ls row).map .str)]++[.lst ((fcL 0 (j0 H.ls row)).map clD)]++[.lst []]) (by simp![v8];rw[ln2])]
 have A3:=A.pf P;rw[seq (by simp![A3.fld8,M3,a3p A3];exact q1)];simp![az (show 2<=SL by decide)]
end
theorem b6C(hw:h[w]? =some (.rol xs)):slD h lo hi (.ref w)=.ok (.ref ↥h) (h++[.lst (P9 xs lo hi)]):=by
 have:rdL h w=some xs:=by unfold rdL;rw[hw]
 simp only[slD,this,v8]
theorem a8U:∀{l:List Int} {i:Nat} {x:D},x∈u5 i (l.map .int)->∃(j:Nat) (z:Int),x=.tup [.int (j:Int),.int z]/\j<i+↥l
 |s::r,i,x,h=>by
  rw[map_cons,u5] at h;rw[length_cons];rcases aH.mp h with rfl|h
  · exact⟨i,s,rfl,by ac_nf⟩
  · obtain⟨j,z,a,b⟩:=a8U h;exact⟨j,z,a,by ac_nf⟩
theorem a5v{xs:List Int}{i:Nat}(hi:i<↥xs):∃z,ixD (h++[.lst (xs.map .int)]) (.ref ↥h) ⇑i=.ok (.int z) (h++[.lst (xs.map .int)]):=⟨xs[i],r8 b7 (by rw[ak,ai hi];rfl)⟩
section
variable{ct:CT}{F:Nat->Option Fn}{H:HL}
theorem a6Z{α:Type}{g:List (Nat×Cell)}{p:Pat}{e:u9->AH->R D}{env0:u9}{h:AH}{c:CF}(hg:gOk g h=true)(f:α->D)(P:α->Prop):∀(l bR:List D),(∀x∈l,∃en y,F7 p x env0=some en/\e en h=.ok (f y) h/\P y)->↥bR+↥l<=SL->∃ys:List α,↥ys=↥l/\(∀y∈ys,P y)/\Q0 g p (tst ct c .yes) e env0 l bR h=.ok (bR++ys.map f) h
 |[],bR,_,_=>⟨[],rfl,(λ_ h=>nomatch h),by rw[Q0,az hg];simp⟩
 |x::r,bR,hx,hl=>by
  rw[length_cons] at hl;obtain⟨en,y,h1,h2,h3⟩:=hx x ba;obtain⟨ys,a1,a2,a3⟩:=a6Z (c:=c) hg f P r (bR++[f y]) (λz hz=>hx z (aF _ hz)) (by rw[au,length_singleton];ac_nf);refine⟨y::ys,by rw[length_cons,length_cons,a1],λz hz=>?_,?_⟩
  · rcases aH.mp hz with rfl|hz
    · exact h3
    · exact a2 z hz
  · rw[Q0,az hg,h1];simp only;rw[a4Q,d9,az rfl,h2,d9,az nofun,a3,aB];rfl
theorem b6G{k d m:Nat}(bQ:F 202=some p8)(hF:F 216=some O1)(hr:h[n]? =some (.rol (ns.map .int)))(hd:h[d]? =some (.lst (ls.map ltD)))(h1:1<=↥ls)(hm:m<=50):
 ∃row:List Str,row.length=↥((ns.drop 6).take m)/\(∀x∈row,x∈ls.map (·.n))/\b5 ct F (k+2) 216 [.ref n,.int 6,.int (m:Int),.ref d] h=.ok (.ref ↥h) (h++[.lst (row.map .str)]):=by
 have sl:slD h (some 6) (some ((6+m:Nat):Int)) (.ref n)=.ok (.ref ↥h) (h++[.lst (((ns.drop 6).take m).map .int)]):=by rw[b6C hr,map_take,map_drop];exact congrArg (λl=>R.ok (D.ref ↥h) (h++[Cell.lst l])) (a5J 6 m (ns.map .int))
 have zl:↥((ns.drop 6).take m)<=50:=by rw[aO];ac_nf
 generalize (ns.drop 6).take m=zs at sl zl⊢;have hd:=b6 (g:=[.lst (zs.map .int)]) hd;have ll:biD .len (h++[.lst (zs.map .int)]) [.ref d]=.ok ⇑↥ls (h++[.lst (zs.map .int)]):=by rw[n9 hd,aa]
 obtain⟨row,a1,a2,a3⟩:=a6Z (ct:=ct) (c:=b5 ct F (k+1)) (g:=[(↥h,.lst (zs.map .int))]) (p:=.tp (.nm 0>=>.nm 1>=>.nil)) (e:=ev ct (b5 ct F (k+1)) (.ix (.ix (.v 2) (.bin .mod (.call 202 (.v 1>=>.o (.v 0))) (.bi .len (.o (.v 2))))) (.i 0))) (env0:=[none,none,~~~d]) (h:=h++[.lst (zs.map .int)]) (by simp only[gOk,all_cons,all_nil,b7];simp) D.str (λx=>x∈ls.map (·.n)) (u5 0 (zs.map .int)) [] (λx hx=>by obtain⟨j,z,rfl,hj⟩:=a8U hx;obtain⟨M,hM⟩:=B9 (ct:=ct) (k:=k) (c:=z) (j:=(j:Int)) (h:=h++[.lst (zs.map .int)]) bQ nofun;obtain⟨y,y1,y2⟩:=a2o ltD h1 M;have i1:=r8 hd y2;have i0:∀h,ixD h (ltD y) (.int 0)=.ok (.str y.n) h:=λh=>ix_tup (i:=0) rfl;refine⟨[j⁻¹,some (.int z),~~~d],y.n,rfl,?_,ao.mpr ⟨y,y1,rfl⟩⟩;simp![hM,ll,op2,B8 ls.length h1,i1,i0]) (by rw[a5F,aa,length_nil];show _<=16777216;ac_nf)
 rw[a5F,aa] at a1;refine⟨row,a1,a2,?_⟩;rw[i6 hF rfl];simp only[O1];rw[seq (by simp![show op2 .add h (.int 6) ⇑m=.ok ⇑(6+m) h from rfl,sl];rfl)];have cm:=a2W (ct:=ct) (c:=b5 ct F (k+1)) (fr:=[3]) (n:=2) (env:=[~~~n,some (.int 6),m⁻¹,~~~d,~~~↥h]) (it:=.enum (.v 4)) (h:=h++[.lst (zs.map .int)]) (by simp![T8,b7];rfl) a3;rw[K4,a1i,cm];exact a2G (((Pf.refl h).app _).app _) b7 ⋯ (C2 _)
theorem b2R{k m:Nat}(hF:F 218=some K3)(hm:bL<=1000):∃z:Int,b5 ct F (k+1) 218 [.int (m:Int),.int (bL:Int)] h=.ok (.int z) h:=by
 have d64:∀h,u0 h ⇑m (.int 64)=.ok ⇑(m/64) h:=λh=>J1 64 ∅ ∅;have m5:∀(a:Nat) h,v0 h ⇑a (.int 5)=.ok ⇑(a%5) h:=λa h=>B8 5 ∅;have m3:∀(a:Nat) h,v0 h ⇑a (.int 3)=.ok ⇑(a%3) h:=λa h=>B8 3 ∅;have a1:∀h,O5 h ⇑bL (.int 1)=.ok ⇑(bL+1) h:=λh=>by rw[bv];rfl
 have a7:∀h,O5 h ⇑bL (.int 7)=.ok ⇑(bL+7) h:=λh=>by rw[bv];rfl
 obtain⟨p,hp⟩:∃p:Int,∀h,a6u h (.int 10) (.int 20)=.ok (.int p) h:=⟨10^20,λh=>rfl⟩;have sb:∀(i j:Int) h,a4u h (.int i) (.int j)=.ok (.int (i-j)) h:=λ_ _ _=>rfl;obtain⟨z,hz⟩:=a5v (xs:=[((m%(bL+1):Nat):Int),((m%(bL+7):Nat):Int)-3,p+(m:Int),-p-(m:Int),((m%3:Nat):Int)]) (i:=m/64%5) (h:=h) (Nat.mod_lt _ ∅);rw[map_cons,map_cons,map_cons,map_cons,map_cons,map_nil] at hz;refine⟨z,?_⟩;rw[i6 hF rfl];simp only[K3];simp![op2,a1,a7,B8 (bL+1) nofun,B8 (bL+7) nofun,sb,hp,o8,m3,d64,m5,v8,hz];exact gc1 rfl
theorem b3R(ss:List Sg):D.flats (ss.map sgD)=true:=D7 λd hd=>by obtain⟨p,_,rfl⟩:=ao.mp hd;rfl
theorem a6h{k i cell:Nat}(bQ:F 202=some p8)(f218:F 218=some K3)(hF:F 219=some E8)(hi:h[i]? =some (.lst (fe.map feD)))(h1:1<=↥fe)(hm:bL<=1000):
 ∃ss:List Sg,↥ss<=5/\(∀p∈ss,p.f∈fe.map (·.1))/\b5 ct F (k+2) 219 [.int (cell:Int),.ref i,.int (bL:Int)] h=.ok (.ref ↥h) (h++[.lst (ss.map sgD)]):=by
 obtain⟨bI,g',q1,ss,e4,e5,e6,e7,rfl,q2,q3,q4,q5⟩:=A9 (g:=[]) (p:=.nm 4) (body:=exs ct (b5 ct F (k+1)) stB) (λj env g=>∃ss:List Sg,∃e4 e5 e6 e7,env=[cell⁻¹,~~~i,bL⁻¹,~~~↥h,e4,e5,e6,e7]/\Pf h g/\g[↥h]? =some (.lst (ss.map sgD))/\↥ss=j/\∀p∈ss,p.f∈fe.map (·.1)) (λ_ _ _ _=>rfl) ((List.range (cell%6)).map λi=>.int ((0:Int)+(i:Nat))) 0 [cell⁻¹,~~~i,bL⁻¹,~~~↥h,none,none,none,none] (h++[.lst []]) (λj x env g hx hP=>by
  obtain⟨ss,e4,e5,e6,e7,rfl,p1,p2,p3,p4⟩:=hP;obtain⟨hj,rfl⟩:=a0U hx;have j6:j<6:=Nat.lt_trans hj (Nat.mod_lt _ ∅);rw[aC] at p3⊢;obtain⟨M,hM⟩:=B9 (ct:=ct) (k:=k) (c:=(cell:Int)) (j:=((j+300:Nat):Int)) (h:=g) bQ nofun;have a300:op2 .add g ⇑j (.int 300)=.ok ⇑(j+300) g:=by rw[bv];rfl
  have dv:∀(b:Nat) (hb:0<b) (h2:b<1073741824) h,u0 h ⇑M ⇑b=.ok ⇑(M/b) h:=λb hb h2 h=>J1 b hb h2;have d7:∀h,u0 h ⇑M (.int 7)=.ok ⇑(M/7) h:=dv 7 ∅ ∅;have d11:∀h,u0 h ⇑M (.int 11)=.ok ⇑(M/11) h:=dv 11 ∅ ∅;have d13:∀h,u0 h ⇑M (.int 13)=.ok ⇑(M/13) h:=dv 13 ∅ ∅;have d2:∀h,u0 h ⇑M (.int 2)=.ok ⇑(M/2) h:=dv 2 ∅ ∅;have d5:∀h,u0 h ⇑M (.int 5)=.ok ⇑(M/5) h:=dv 5 ∅ ∅;have d3:∀h,u0 h ⇑M (.int 3)=.ok ⇑(M/3) h:=dv 3 ∅ ∅;have m2:∀(a:Nat) h,v0 h ⇑a (.int 2)=.ok ⇑(a%2) h:=λa h=>B8 2 ∅;have m7:∀(a:Nat) h,v0 h ⇑a (.int 7)=.ok ⇑(a%7) h:=λa h=>B8 7 ∅;have a1:∀h,O5 h ⇑bL (.int 1)=.ok ⇑(bL+1) h:=λh=>by rw[bv];rfl
  obtain⟨y1,hy1⟩:=b2R (ct:=ct) (k:=k) (m:=M/7) (bL:=bL) (h:=g) f218 hm;obtain⟨z1,hz1⟩:=a5v (xs:=[((M/7%(bL+1):Nat):Int),y1]) (i:=M%2) (h:=g) (Nat.mod_lt _ ∅);rw[map_cons,map_cons,map_nil] at hz1;have P2:=p1.app [.lst [.int ((M/7%(bL+1):Nat):Int),.int y1]];have p2':=b6 (g:=[.lst [.int ((M/7%(bL+1):Nat):Int),.int y1]]) p2;have s1:ex ct (b5 ct F (k+1)) (.set 6 (.ix (.lst (.bin .mod (.bin .div (.v 5) (.i 7)) (.bin .add (.v 2) (.i 1))>=>.o (.call 218 (.bin .div (.v 5) (.i 7)>=>.o (.v 2))))) (.bin .mod (.v 5) (.i 2)))) [cell⁻¹,~~~i,bL⁻¹,~~~↥h,j⁻¹,M⁻¹,e6,e7] g=.ok (.nx [cell⁻¹,~~~i,bL⁻¹,~~~↥h,j⁻¹,M⁻¹,some (.int z1),e7]) (g++[.lst [.int ((M/7%(bL+1):Nat):Int),.int y1]]):=by simp![op2,d7,a1,B8 (bL+1) nofun,hy1,m2,v8,hz1]
  generalize g++[Cell.lst [.int ((M/7%(bL+1):Nat):Int),.int y1]]=g2 at P2 p2' s1;obtain⟨y2,hy2⟩:=b2R (ct:=ct) (k:=k) (m:=M/13) (bL:=bL) (h:=g2) f218 hm;obtain⟨z2,hz2⟩:=a5v (xs:=[z1+((M/11%7:Nat):Int),y2]) (i:=M/2%2) (h:=g2) (Nat.mod_lt _ ∅);rw[map_cons,map_cons,map_nil] at hz2;have P3:=P2.app [.lst [.int (z1+((M/11%7:Nat):Int)),.int y2]];have p3':=b6 (g:=[.lst [.int (z1+((M/11%7:Nat):Int)),.int y2]]) p2';have s2:ex ct (b5 ct F (k+1)) (.set 7 (.ix (.lst (.bin .add (.v 6) (.bin .mod (.bin .div (.v 5) (.i 11)) (.i 7))>=>.o (.call 218 (.bin .div (.v 5) (.i 13)>=>.o (.v 2))))) (.bin .mod (.bin .div (.v 5) (.i 2)) (.i 2)))) [cell⁻¹,~~~i,bL⁻¹,~~~↥h,j⁻¹,M⁻¹,some (.int z1),e7] g2=.ok (.nx [cell⁻¹,~~~i,bL⁻¹,~~~↥h,j⁻¹,M⁻¹,some (.int z1),some (.int z2)]) (g2++[.lst [.int (z1+((M/11%7:Nat):Int)),.int y2]]):=by simp![op2,d11,m7,o8,d13,hy2,d2,m2,v8,hz2]
  generalize g2++[Cell.lst [.int (z1+((M/11%7:Nat):Int)),.int y2]]=g3 at P3 p3' s2;obtain⟨y,y1,y2⟩:=a2o feD h1 (M/5);have hi3:=P3.at hi;have fx:=r8 hi3 y2;have f0:∀h,ixD h (feD y) (.int 0)=.ok (.str y.1) h:=λh=>ix_tup (i:=0) rfl;have fl:biD .len g3 [.ref i]=.ok ⇑↥fe g3:=by rw[n9 hi3,aa]
  have eq:J4 g3 ⇑(M/3%2) (.int 0)=.ok (.bl (decide (((M/3%2:Nat):Int)=0))) g3:=rfl;have ap:=K0 (d:=sgD ⟨y.1,z1,z2,decide (((M/3%2:Nat):Int)=0)⟩) p3' (by rw[aa];ac_nf);refine⟨_,[cell⁻¹,~~~i,bL⁻¹,~~~↥h,j⁻¹,M⁻¹,some (.int z1),some (.int z2)],_,rfl,?_,ss++[⟨y.1,z1,z2,decide (((M/3%2:Nat):Int)=0)⟩],_,_,_,_,rfl,P3.set (aj _),w6 p3',by rw[au,length_singleton,p3],λp hp=>?_⟩
  · show exs ct (b5 ct F (k+1)) stB [cell⁻¹,~~~i,bL⁻¹,~~~↥h,j⁻¹,e5,e6,e7] g=_;unfold stB;rw[seq (by simp![a300,hM];rfl),seq s1,seq s2];rw[aq];simp![D3 p3',op2,d5,fl,B8 fe.length h1,fx,f0,d3,m2,eq,az (show 4<=SL by decide),show D.tup [.str y.1,.int z1,.int z2,.bl (decide (((M/3%2:Nat):Int)=0))]=sgD ⟨y.1,z1,z2,decide (((M/3%2:Nat):Int)=0)⟩ from rfl,ap]
  · rcases aN.mp hp with hp|hp
    · exact p4 p hp
    · rw[aR.mp hp];exact ao.mpr ⟨y,y1,rfl⟩) ⟨[],none,none,none,none,rfl,(Pf.refl h).app _,b7,rfl,λ_ h=>nomatch h⟩
 refine⟨ss,by rw[q4,aa,aL];have:=Nat.mod_lt cell (show 6>0 by decide);ac_nf,q5,?_⟩;have m6:v0 (h++[.lst []]) ⇑cell (.int 6)=.ok ⇑(cell%6) (h++[.lst []]):=B8 6 ∅;have l6:cell%6<6:=Nat.mod_lt _ ∅;rw[i6 hF rfl,E8];rw[seq (by simp![v8];rfl)];rw[seq (by simp![op2,m6,W3 (h:=h++[.lst []]) (m:=cell%6) nofun];exact q1)];simp![];exact a2G q2 q3 (aj _) (b3R _)
end
theorem a6j(hs:∀x∈l,same h n x x=true):same h (n+1) (.tup l) (.tup l)=true:=by show(decide (↥l=↥l)&&(l.zip l).all λp=>same h n p.1 p.2)=true;rw[bf rfl,a2Z _ l hs];rfl
theorem b3V(h:AH)(n:Nat)(c:Cl):same h (n+2) (clD c) (clD c)=true:=a6j λx hx=>by
 rcases aH.mp hx with rfl|hx
 · exact a2N rfl _
 · rw[aR.mp hx];exact a6j λy hy=>by obtain⟨i,_,rfl⟩:=ao.mp hy;exact a2N rfl _
theorem b5q{a c d:Nat}{ns:List Nat}(ha:h[a]? =some (.lst (cells.map clD)))(hb:h[b]? =some (.lst (nsD ns)))(hc:h[c]? =some (.lst (cells.map clD)))(hd:h[d]? =some (.lst (nsD ns))):op2 .eq h (.tup [.ref a,.ref b]) (.tup [.ref c,.ref d])=.ok (.bl true) h/\op2 .ne h (.tup [.ref a,.ref b]) (.tup [.ref c,.ref d])=.ok (.bl false) h:=by
 have s1:same h 4 (.ref a) (.ref c)=true:=a3o (rd_of ha) (rd_of hc) λx hx=>by obtain⟨c,_,rfl⟩:=ao.mp hx;exact b3V h 1 c
 have s2:same h 4 (.ref b) (.ref d)=true:=a3o (rd_of hb) (rd_of hd) λx hx=>by obtain⟨c,_,rfl⟩:=ao.mp hx;exact a2N rfl _
 have s:a6V h (.tup [.ref a,.ref b]) (.tup [.ref c,.ref d])=true:=by show(decide (2=2)&&(same h 4 (.ref a) (.ref c)&&(same h 4 (.ref b) (.ref d)&&true)))=true;rw[s1,s2];rfl
 refine⟨?_,?_⟩
 · show(if a6V h (.tup [.ref a,.ref b]) (.tup [.ref c,.ref d])=true then R.ok (D.bl true) h else .no)=_;rw[s];rfl
 · show(if false=true then R.ok (D.bl false) h else if a6V h (.tup [.ref a,.ref b]) (.tup [.ref c,.ref d])=true then .ok (.bl false) h else .no)=_;rw[s];rfl
section
variable{ct:CT}{F:Nat->Option Fn}{H:HL}
theorem b5Z{i:Int}:a1E h 1 (.int i)=some true/\a1E h 0 (.int i)=some false:=⟨rfl,rfl⟩
theorem b9Y:a1E h 4 (.str x)=some true:=rfl
theorem b5Y:a1E h 3 (.tup l)=some true:=rfl
theorem b1Q(e:h[n]? =some (.lst l)):a1E h 2 (.ref n)=some true:=by simp only[a1E,e];rfl
theorem a5V{k:Nat}{i:Int}(hF:F 217=some J6):b5 ct F (k+1) 217 [.int i] h=.ok (.bl true) h:=by rw[i6 hF rfl];simp only[J6];simp![a2m,b5Z.1,b5Z.2,Bool.not_false];exact u8 rfl
theorem a7H{k:Nat}(eN:F 217=some J6)(hF:F 220=some F6)(hw:h[w]? =some (.lst (cells.map clD)))(hL:↥(o7 cells)<=1000):b5 ct F (k+2) 220 [.ref w] h=.ok (.bl true) h:=by
 obtain⟨bI,g',q1,e1,rfl,q2⟩:=A9 (g:=[(w,.lst (cells.map clD))]) (p:=.nm 1) (body:=exs ct (b5 ct F (k+1)) icB) (λj env g=>∃e1,env=[~~~w,e1]/\Pf h g) (λj env g hP=>by
  obtain⟨_,_,P⟩:=hP;simp only[gOk,all_cons,all_nil,P.at hw];simp) (cells.map clD) 0 [~~~w,none] h (λj x env g hx hP=>by
  obtain⟨e1,rfl,P⟩:=hP;rw[ak] at hx;obtain⟨c,hc,rfl⟩:=Option.map_eq_some_iff.mp hx;have cl:↥c.2<=1000:=by obtain⟨z1,z2⟩:=ac.mp hc;have a:=a7F cells (j+1);rw[a6B z1,z2,au] at a;ac_nf
  obtain⟨i0,i1⟩:(∀h,ixD h (clD c) (.int 0)=.ok (.str c.1) h)/\(∀h,ixD h (clD c) (.int 1)=.ok (.tup (c.2.map .int)) h):=⟨λh=>a1O.1,λh=>a1O.2⟩;have it:∀env:u9,env[1]? =some (some (clD c))->ev ct (b5 ct F (k+1)) (.ins 3 (.v 1)) env g=.ok (.bl true) g:=λenv e=>by rw[a2m,b7Z,e];rfl
  have ln:biD .len g [clD c]=.ok (.int 2) g:=rfl;have ne:op2 .ne g (.int 2) (.int 2)=.ok (.bl false) g:=rfl;have cm:ev ct (b5 ct F (k+1)) (.comp (.nm 0) (.seq (.ix (.v 1) (.i 1))) 1 [] .yes (.call 217 (.o (.v 0)))) [~~~w,some (clD c)] g=.ok (.ref ↥g) (g++[.lst (c.2.map λ_=>D.bl true)]):=by
   rw[o6 (l:=c.2.map .int) (g:=[]) (h1:=g) (by simp![i1,M3]) rfl (λ_=>.bl true) (λx=>[some x]) (λx hx=>by obtain⟨i,_,rfl⟩:=ao.mp hx;refine⟨rfl,?_⟩;simp![a5V eN]) (by rw[aa];show _<=16777216;ac_nf),aK]
   rfl
  have al:biD .all (g++[.lst (c.2.map λ_=>D.bl true)]) [.ref ↥g]=.ok (.bl true) (g++[.lst (c.2.map λ_=>D.bl true)]):=by rw[X9 (P:=λ_=>true)];congr 2;exact bp.mpr λ_ _=>rfl
  refine⟨_,[~~~w,some (clD c)],g++[.lst (c.2.map λ_=>D.bl true)],rfl,?_,_,rfl,P.app _⟩;have it1:=it [~~~w,some (clD c)] rfl;unfold icB;simp![it1,ln,ne,a2m,b9Y,b5Y,i0,i1,Bool.not_true,cm,al]) ⟨none,rfl,Pf.refl h⟩
 rw[i6 hF rfl,F6];rw[seq (by simp![a2m,b1Q hw,Bool.not_true];rfl)];rw[seq (by simp![M3,hw];exact q1)];simp![];exact b2m q2 rfl
end
theorem Y4{S:List Nat}{p:Nat×Nat}:p∈S.zip (S.drop 1)↔∃i,∃h:i+1<S.length,p=(S[i],S[i+1]):=by
 rw[List.mem_iff_getElem];constructor
 · rintro⟨i,h,rfl⟩;have h':i+1<S.length:=by rw[length_zip,bB] at h;ac_nf
   refine⟨i,h',?_⟩;rw[List.getElem_zip,List.getElem_drop];simp only[show 1+i=i+1 by ac_nf]
 · rintro⟨i,h,rfl⟩;refine⟨i,by rw[length_zip,bB];ac_nf,?_⟩;rw[List.getElem_zip,List.getElem_drop];simp only[show 1+i=i+1 by ac_nf]
theorem a3h{i:Nat}(hi:i<↥(b8 js))(hj:j<↥(b8 js))(e:(b8 js)[i]=(b8 js)[j]):i=j:=by
 have pw:=List.pairwise_iff_getElem.mp (b3U js);rcases Nat.lt_trichotomy i j with h|h|h
 · have:=pw i j hi hj h;ac_nf
 · exact h
 · have:=pw j i hj hi h;ac_nf
theorem b9U(hj:j<↥(b8 js)):jgB js (b8 js)[j]=(decide (j+1<↥(b8 js))&&jnx (js.getD (b8 js)[j] "") (js.getD ((b8 js).getD (j+1) 0) "")):=by
 unfold jgB
 by_cases h:j+1<↥(b8 js)
 · rw[bf h,Bool.true_and,show(b8 js).getD (j+1) 0=(b8 js)[j+1] by rw[bx,ai h];rfl];rw[Bool.eq_iff_iff,bz];constructor
   · intro m;obtain⟨p,hp,e⟩:=ao.mp m;obtain⟨h1,h2⟩:=bm.mp hp;obtain⟨i,hi,rfl⟩:=Y4.mp h1;obtain rfl:=a3h nofun hj e;exact h2
   · intro m;exact ao.mpr ⟨((b8 js)[j],(b8 js)[j+1]),bm.mpr ⟨Y4.mpr ⟨j,h,rfl⟩,m⟩,rfl⟩
 · rw[bA h,Bool.false_and];refine bA λm=>?_;obtain⟨p,hp,e⟩:=ao.mp m;obtain⟨i,hi,rfl⟩:=Y4.mp (bm.mp hp).1;have:=a3h nofun hj e;ac_nf
theorem b9V(hj:j<↥(b8 js)):jdB js (b8 js)[j]=(decide (0<j)&&jnx (js.getD ((b8 js).getD (j-1) 0) "") (js.getD (b8 js)[j] "")):=by
 unfold jdB;cases j with
 |zero=>
  rw[bA (aT 0),Bool.false_and];refine bA λm=>?_;obtain⟨p,hp,e⟩:=ao.mp m;obtain⟨i,hi,rfl⟩:=Y4.mp (bm.mp hp).1;have:=a3h hi hj e;ac_nf
 |succ j=>
  rw[bf (Nat.succ_pos j),Bool.true_and,Nat.add_sub_cancel,show(b8 js).getD j 0=(b8 js)[j] by rw[bx,ai nofun];rfl];rw[Bool.eq_iff_iff,bz];constructor
  · intro m;obtain⟨p,hp,e⟩:=ao.mp m;obtain⟨h1,h2⟩:=bm.mp hp;obtain⟨i,hi,rfl⟩:=Y4.mp h1;have:=a3h hi hj e;obtain rfl:i=j:=by ac_nf
    exact h2
  · intro m;exact ao.mpr ⟨((b8 js)[j],(b8 js)[j+1]),bm.mpr ⟨Y4.mpr ⟨j,hj,rfl⟩,m⟩,rfl⟩
theorem far{k:Nat}(h:k∉b8 js):jdB js k=false/\jgB js k=false:=by
 refine⟨bA λm=>?_,bA λm=>?_⟩
 · obtain⟨p,hp,e⟩:=ao.mp m;obtain⟨i,hi,rfl⟩:=Y4.mp (bm.mp hp).1;exact h (e▸bu hi)
 · obtain⟨p,hp,e⟩:=ao.mp m;obtain⟨i,hi,rfl⟩:=Y4.mp (bm.mp hp).1;exact h (e▸bu (show i<↥(b8 js) by ac_nf))
theorem a5s:↥(c9 ls row)=row.length:=by unfold c9;rw[aa]
theorem b9R{k:Nat}(hk:k<row.length):(c9 ls row).getD k ""=(A8 ls row[k]).j:=by unfold c9;rw[bx,ak,ai hk];rfl
theorem b5R{k:Nat}(h:k∈b8 (c9 ls row)):k<row.length:=by obtain⟨h,_⟩:=a6i.mp h;rw[a5s] at h;exact h
theorem b1Y:∀(cs:List Cl) (p:List Int×Int),(cs.foldl a2e p).1.length=↥p.1+↥cs
 |[],p=>rfl
 |c::r,p=>by rw[foldl_cons,b1Y r,length_cons];unfold a2e;cases c.2<;>simp<;>ac_nf
theorem b2U{H:HL}{ss:List Sg}{r:Ru}{cells:List Cl}(hc:1<=↥r.c)(off:∀l∈hmI cells,a1D H.fe ss r.f l=false):∀(m i:Nat) (n:Nat),↥cells<=i+m->dnL H ss r cells m i (cells.take i) n=(cells,n)
 |0,i,n,hm=>by show(cells.take i,n)=_;rw[bj nofun]
 | m+1,i,n,hm=>by
  unfold dnL;cases e:cells[i]? with
  |none=>
   have:=List.getElem?_eq_none_iff.mp e;show(cells.take i,n)=_;rw[bj this]
  | some c=>
   obtain⟨hi,rfl⟩:=ac.mp e;have ll:=b1Y cells ([],0);rw[length_nil,aC] at ll;have hl:i<↥(hmI cells):=by unfold hmI;ac_nf
   have on:a5G H ss r (cells.take i) cells i cells[i]=false:=by unfold a5G;obtain⟨k,hk⟩:∃k,↥r.c=k+1:=⟨↥r.c-1,by ac_nf⟩;rw[hk,drop_eq_getElem_cons hl,List.take_succ_cons,all_cons,off _ (bu hl),Bool.false_and,Bool.and_false]
   simp only[on,Bool.false_eq_true,if_false];rw[←take_succ_eq_append_getElem hi];exact b2U hc off m (i+1) n nofun
theorem b0D{H:HL}{ss:List Sg}{cells:List Cl}(K:HLok H)(off:∀f∈H.fe.map (·.1),∀l∈hmI cells,a1D H.fe ss f l=false):∀(rs:List Ru) (ns:List Nat),(∀r∈rs,r∈H.ru)->shF H ss rs cells ns=(cells,ns++List.replicate ↥rs 0)
 |[],ns,_=>by rw[length_nil,List.replicate_zero,bc];rfl
 |r::t,ns,hr=>by have ro:=K.ruo r (hr r (.head _));have d:J8 H ss cells r=(cells,0):=b2U ro.c4.1 (off _ ro.fe) ↥cells 0 0 nofun;unfold shF;rw[d,b0D K off t _ λx hx=>hr x (.tail _ hx),aB];rfl
theorem b6c:∀(fs:List Str) (i:Nat) (q:List Int×Int),((fcL i fs).foldl a2e q).1=q.1++(List.range' i ↥fs).map λk:Nat=>(k:Int)
 |[],i,q=>by rw[length_nil,List.range'_zero,map_nil,bc];rfl
 |s::r,i,q=>by show((fcL (i+1) r).foldl a2e (a2e q (s,[(i:Int)]))).1=_;rw[b6c r (i+1),length_cons,List.range'_succ,map_cons];show q.1++[(i:Int)]++_=_;rw[aB];rfl
theorem c0l{fs:List Str}{l:Int}(h:l∈hmI (fcL 0 fs)):∃k:Nat,l=(k:Int)/\k<↥fs:=by unfold hmI at h;rw[b6c,nil_append] at h;obtain⟨k,hk,rfl⟩:=ao.mp h;exact⟨k,rfl,by have:=(List.mem_range'_1.mp hk).2;ac_nf⟩
theorem b4z{ts:List Sg}{l:Int}(h:∀p∈ts,p.o=false)(hex:(∃p∈ts,p.f=f/\p.a<=l/\l<=p.b)∨a1D fe ss f l=false):a1D fe (ss++ts) f l=false:=by
 induction ts generalizing ss with
 |nil=>
  rw[bc];rcases hex with⟨p,hp,_⟩|h
  · cases hp
  · exact h
 |cons p r ih=>
  rw[show ss++p::r=(ss++[p])++r by rw[aB];rfl];have st:a1D fe (ss++[p]) f l=Y8 f l (a1D fe ss f l) p:=by unfold a1D;rw[List.foldl_append];rfl
  refine ih (λx hx=>h x (.tail _ hx)) ?_;rw[st];unfold Y8
  by_cases m:p.f=f/\p.a<=l/\l<=p.b
  · rw[az m];exact .inr (h p (.head _))
  · rw[aA m];rcases hex with⟨q,hq,e⟩|e
    · rcases aH.mp hq with rfl|hq
      · exact absurd e m
      · exact .inl ⟨q,hq,e⟩
    · exact .inr e
def lwL(ls:List Lt):List (D×D):=kd (ls.map λl=>(l.n,.tup [.str l.j,.tup (l.fs.map .str)]))
theorem a8m{k:Nat}{v:D}(e:h[n]? =some (.lst xs))(hk:k<↥xs):a0L h (.ref n) ⇑k v=.ok () (h.set n (.lst (xs.set k v))):=by
 have:ixN ↥xs (k:Int)=some k:=by unfold ixN;rw[az nofun,az nofun,Int.toNat_natCast]
 simp only[a0L,e,this]
theorem a3L{b:Bool}:biD .int h [.bl b]=.ok (.int (if b then 1 else 0)) h:=rfl
theorem bb2:op2 .isin h (.str y) (.tup [.str "both",.str "back"])=.ok (.bl (bb y)) h:=by show M8 false h (.str y) (.tup [.str "both",.str "back"])=_;have:(y7 (.str y)&&[D.str "both",.str "back"].all y7)=true:=rfl;simp only[M8,this,if_true,b6j];cases bb y<;>rfl
def O9(T:D)(l d sv fv:Nat)(e3 e4 e5 e6 e9 e10 e11:Option D):u9:=[some T,~~~l,~~~d,e3,e4,e5,e6,~~~sv,~~~fv,e9,e10,e11]
variable{q:Nat}
section
variable{ct:CT}{F:Nat->Option Fn}
theorem b4J{T l:D}(hq:h[q]? =some (.lst (ls.map ltD)))(nd:(ls.map (·.n)).Nodup)(hl:↥ls<=1000):∃e3 e4 e5 e6,K8 [(q,.lst (ls.map ltD))] lfP (exs ct c lfB) (ls.map ltD) [some T,some l,~~~↥h,none,none,none,none,none,none,none,none,none] (h++[.dict []])=.ok (.nx [some T,some l,~~~↥h,e3,e4,e5,e6,none,none,none,none,none]) (h++[.dict (lwL ls)]):=by
 obtain⟨bI,g',e1,e3,e4,e5,e6,rfl,rfl⟩:=A9 (g:=[(q,.lst (ls.map ltD))]) (p:=lfP) (body:=exs ct c lfB) (λj env hh=>∃e3 e4 e5 e6,env=[some T,some l,~~~↥h,e3,e4,e5,e6,none,none,none,none,none]/\hh=h++[.dict (lwL (ls.take j))]) (λj env hh hP=>by
  obtain⟨_,_,_,_,_,rfl⟩:=hP;simp only[gOk,all_cons,all_nil,b6 hq];simp) (ls.map ltD) 0 [some T,some l,~~~↥h,none,none,none,none,none,none,none,none,none] (h++[.dict []]) (λj x env hh hx hP=>by
  obtain⟨e3,e4,e5,e6,rfl,rfl⟩:=hP;rw[ak] at hx;obtain⟨y,hc,rfl⟩:=Option.map_eq_some_iff.mp hx;have hj:=(ac.mp hc).1;rw[aC];have tk:ls.take (j+1)=ls.take j++[y]:=by rw[List.take_succ,hc];rfl
  have nn:y.n∉((ls.take j).map λl=>(l.n,D.tup [.str l.j,.tup (l.fs.map .str)])).map (·.1):=by
   rw[a2d];have s:ls=ls.take j++y::ls.drop (j+1):=by have:=take_append_drop (j+1) ls;rw[tk,aB] at this;exact this.symm
   exact L5 (f:=λl:Lt=>l.n) nd s
  have st:=V3 (h:=h++[.dict (lwL (ls.take j))]) (d:=.tup [.str y.j,.tup (y.fs.map .str)]) b7 nn (by rw[aa,aO];show _<16777216;ac_nf);rw[a8l,show kd (((ls.take j).map λl=>(l.n,D.tup [.str l.j,.tup (l.fs.map .str)]))++[(y.n,.tup [.str y.j,.tup (y.fs.map .str)])])=lwL (ls.take (j+1)) by unfold lwL;rw[tk,aq];rfl] at st;refine⟨_,[some T,some l,~~~↥h,some (.str y.n),some (.str y.j),some (.str y.w),some (.tup (y.fs.map .str)),none,none,none,none,none],_,rfl,?_,_,_,_,_,rfl,rfl⟩;show exs ct c lfB [some T,some l,~~~↥h,some (.str y.n),some (.str y.j),some (.str y.w),some (.tup (y.fs.map .str)),none,none,none,none,none] _=_;unfold lfB;simp![az (show 2<=SL by decide),st]) ⟨none,none,none,none,rfl,rfl⟩
 rw[aa,aC,bh] at e1;exact⟨e3,e4,e5,e6,e1⟩
theorem b4I {T:D} {l d sv fv:Nat} {L:List Str} {e3 e4 e5 e6 e11:Option D} (ho:∀l∈ls,LtOk sh l) (hr:h[l]? =some (.lst (row.map .str))) (hd:h[d]? =some (.dict (lwL ls))) (hs:h[sv]? =some (.lst ((b8 (c9 ls row)).map λi:Nat=>.int (i:Int)))) (hf:h[fv]? =some (.lst (L.map .str))) (hL:↥L=row.length) (cP:∀x∈row,x∈ls.map (·.n)) (hj:j<↥(b8 (c9 ls row))) (h0:L[(b8 (c9 ls row))[j]]? =some ((A8 ls (row.getD (b8 (c9 ls row))[j] "")).fs.getD 0 "")):
 ∃g e4' e6' dZ e11',exs ct c lfL (O9 T l d sv fv e3 e4 e5 e6 (j⁻¹) e10 e11) h=.ok (.nx (O9 T l d sv fv e3 e4' e5 e6' (j⁻¹) dZ e11')) g/\(∃t,g=(h++t).set fv (.lst ((L.set (b8 (c9 ls row))[j] (a0H ls row (b8 (c9 ls row))[j])).map .str))):=by
 have lk:∀i (hi:i<↥(b8 (c9 ls row))),∃hk:(b8 (c9 ls row))[i]<row.length,(c9 ls row).getD (b8 (c9 ls row))[i] ""=(A8 ls row[(b8 (c9 ls row))[i]]).j/\ixD h (.ref sv) ⇑i=.ok (.int ((b8 (c9 ls row))[i]:Int)) h/\ixD h (.ref l) (.int ((b8 (c9 ls row))[i]:Int))=.ok (.str row[(b8 (c9 ls row))[i]]) h/\ixD h (.ref d) (.str row[(b8 (c9 ls row))[i]])=.ok (.tup [.str (A8 ls row[(b8 (c9 ls row))[i]]).j,.tup ((A8 ls row[(b8 (c9 ls row))[i]]).fs.map .str)]) h:=λi hi=>by have hk:=b5R (bu hi);exact⟨hk,b9R hk,r8 hs (by rw[ak,ai hi];rfl),r8 hr (by rw[ak,ai hk];rfl),a8E (λl=>.tup [.str l.j,.tup (l.fs.map .str)]) hd (cP _ (bu hk))⟩
 have jd:=b9V hj;have jg:=b9U hj;have ln:biD .len h [.ref sv]=.ok (.int (↥(b8 (c9 ls row)):Int)) h:=by rw[n9 hs,aa]
 obtain⟨hk,x0,x1,x2,x3⟩:=lk j hj;have zg:row.getD (b8 (c9 ls row))[j] ""=row[(b8 (c9 ls row))[j]]:=by rw[bx,ai hk];rfl
 have o:=ho _ (a8B (cP _ (bu hk)));rw[x0] at jd jg;rw[zg] at h0;have gt0:op2 .gt h ⇑j (.int 0)=.ok (.bl (decide (0<j))) h:=by show R.ok (D.bl (decide ((0:Int)<(j:Int)))) h=_;congr 2;exact decide_eq_decide.mpr ⟨λe=>by ac_nf,λe=>by ac_nf⟩
 have lt1:op2 .lt h ⇑(j+1) (.int (↥(b8 (c9 ls row)):Int))=.ok (.bl (decide (j+1<↥(b8 (c9 ls row))))) h:=by show R.ok (D.bl (decide (((j+1:Nat):Int)<(↥(b8 (c9 ls row)):Int)))) h=_;congr 2;exact decide_eq_decide.mpr ⟨λe=>by ac_nf,λe=>by ac_nf⟩
 have ad1:op2 .add h ⇑j (.int 1)=.ok ⇑(j+1) h:=by rw[bv];rfl
 -- the ends of the pairs
 have bk:∀e11,ev ct c lfA (O9 T l d sv fv e3 (some (.str (A8 ls row[(b8 (c9 ls row))[j]]).j)) e5 (some (.tup ((A8 ls row[(b8 (c9 ls row))[j]]).fs.map .str))) (j⁻¹) e10 e11) h=.ok (.bl (jdB (c9 ls row) (b8 (c9 ls row))[j])) h:=λe11=>by
  rw[jd];unfold lfA lfX lfT O9;cases e:decide (0<j) with
  |false=>simp![gt0,e,Bool.false_and]
  | true=>
   have hp:=ax e;obtain⟨_,y0,y1,y2,y3⟩:=lk (j-1) nofun;have sb:op2 .sub h ⇑j (.int 1)=.ok ⇑(j-1) h:=by show R.ok (D.int ((j:Int)-1)) h=_;congr 2;ac_nf
   rw[Bool.true_and,show(b8 (c9 ls row)).getD (j-1) 0=(b8 (c9 ls row))[j-1] by rw[bx,ai nofun];rfl,y0];unfold jnx;cases e2:decide ((A8 ls row[(b8 (c9 ls row))[j-1]]).j="both") with
   |false=>simp![gt0,e,sb,y1,y2,y3,a0S,a1j,e2,Bool.false_and]
   |true=>simp![gt0,e,sb,y1,y2,y3,a0S,a1j,e2,az (show 2<=SL by decide),bb2,Bool.true_and]
 have on:∀e10,ev ct c lfO (O9 T l d sv fv e3 (some (.str (A8 ls row[(b8 (c9 ls row))[j]]).j)) e5 (some (.tup ((A8 ls row[(b8 (c9 ls row))[j]]).fs.map .str))) (j⁻¹) e10 e11) h=.ok (.bl (jgB (c9 ls row) (b8 (c9 ls row))[j])) h:=λe10=>by
  rw[jg];unfold lfO lfX lfT O9;cases e:decide (j+1<↥(b8 (c9 ls row))) with
  |false=>simp![ad1,ln,lt1,e,Bool.false_and]
  |true=>
   have hp:=ax e;obtain⟨_,y0,y1,y2,y3⟩:=lk (j+1) hp;rw[Bool.true_and,show(b8 (c9 ls row)).getD (j+1) 0=(b8 (c9 ls row))[j+1] by rw[bx,ai hp];rfl,y0];unfold jnx;cases e2:decide ((A8 ls row[(b8 (c9 ls row))[j]]).j="both") with
   |false=>simp![ad1,ln,lt1,e,a1j,e2,Bool.false_and]
   |true=>simp![ad1,ln,lt1,e,a1j,e2,y1,y2,y3,a0S,az (show 2<=SL by decide),bb2,Bool.true_and]
 have none_l:(A8 ls row[(b8 (c9 ls row))[j]]).j≠"both"->jgB (c9 ls row) (b8 (c9 ls row))[j]=false:=λz=>by rw[jg];unfold jnx;rw[bA z,Bool.false_and,Bool.and_false]
 have none_r:(A8 ls row[(b8 (c9 ls row))[j]]).j≠"both"->(A8 ls row[(b8 (c9 ls row))[j]]).j≠"back"->jdB (c9 ls row) (b8 (c9 ls row))[j]=false:=λz z'=>by rw[jd];unfold jnx bb;rw[bA z,bA z',Bool.or_self,Bool.and_false,Bool.and_false]
 have fa:a0H ls row (b8 (c9 ls row))[j]=N2 (A8 ls row[(b8 (c9 ls row))[j]]).fs (jdB (c9 ls row) (b8 (c9 ls row))[j]) (jgB (c9 ls row) (b8 (c9 ls row))[j]):=by unfold a0H;rw[zg]
 rw[fa];have kL:(b8 (c9 ls row))[j]<↥(L.map D.str):=by rw[aa,hL];exact hk
 have pt:exs ct c lfL (O9 T l d sv fv e3 e4 e5 e6 (j⁻¹) e10 e11) h=exs ct c (.cons lfS (.o lfK)) (O9 T l d sv fv e3 (some (.str (A8 ls row[(b8 (c9 ls row))[j]]).j)) e5 (some (.tup ((A8 ls row[(b8 (c9 ls row))[j]]).fs.map .str))) (j⁻¹) (some (.bl (jdB (c9 ls row) (b8 (c9 ls row))[j]))) (some (.bl (jgB (c9 ls row) (b8 (c9 ls row))[j])))) h:=by
  unfold lfL;rw[seq (bI:=O9 T l d sv fv e3 (some (.str (A8 ls row[(b8 (c9 ls row))[j]]).j)) e5 (some (.tup ((A8 ls row[(b8 (c9 ls row))[j]]).fs.map .str))) (j⁻¹) e10 e11) (h':=h) (by rw[b7X];unfold lfX O9;simp![x1,x2,x3];rfl)]
  rw[seq (by rw[a0l,bk];rfl)];rw[seq (by rw[a0l];exact congrArg (λr=>R.bind r _) (on _))];rfl
 rw[pt];clear pt bk on jd jg lk;generalize jdB (c9 ls row) (b8 (c9 ls row))[j]=p at*
 generalize jgB (c9 ls row) (b8 (c9 ls row))[j]=q at*
 generalize A8 ls row[(b8 (c9 ls row))[j]]=y at*
 generalize hkk:(b8 (c9 ls row))[j]=k at*
 have l0:=o.few.1
 by_cases b:y.j="both"
 · have b4:=b6i o b;have nb:decide (y.j="back")=false:=by rw[b];decide
   have g0:∀{g:AH} {a:List D} {b:Nat} {d:D},a[b]? =some d->ixD (g++[.lst a]) (.ref ↥g) ⇑b=.ok d (g++[.lst a]):=λe=>r8 b7 e;have l1:↥(h++[Cell.lst [.int 0,.int 1]])=↥h+1:=by simp
   have h3:(h++[Cell.lst [.int 0,.int 1]]++[Cell.lst [.int 3,.int 2]])[↥h+1]? =some (.lst [.int 3,.int 2]):=by rw[←l1];exact b7
   have h2:(h++[Cell.lst [.int 0,.int 1]]++[Cell.lst [.int 3,.int 2]])[↥h]? =some (.lst [.int 0,.int 1]):=b6 b7;obtain⟨i,hi,iv,fv'⟩:∃i,i<↥y.fs/\ev ct c lfI (O9 T l d sv fv e3 (some (.str y.j)) e5 (some (.tup (y.fs.map .str))) (j⁻¹) (some (.bl p)) (some (.bl q))) h=ixD (h++[Cell.lst [.int 0,.int 1]]++[Cell.lst [.int 3,.int 2]]++[Cell.lst [.ref ↥h,.ref (↥h+1)]]) (.tup (y.fs.map .str)) ⇑i/\N2 y.fs p q=y.fs.getD i "":=by
    have e2:=b6 (g:=[Cell.lst [.ref ↥h,.ref (↥h+1)]]) h2;have e3:=b6 (g:=[Cell.lst [.ref ↥h,.ref (↥h+1)]]) h3;have z0:ixD (h++[Cell.lst [.int 0,.int 1]]++[Cell.lst [.int 3,.int 2]]++[Cell.lst [.ref ↥h,.ref (↥h+1)]]) (.ref ↥(h++[Cell.lst [.int 0,.int 1]]++[Cell.lst [.int 3,.int 2]])) (.int 0)=.ok (.ref ↥h) _:=g0 (b:=0) rfl;have z1:ixD (h++[Cell.lst [.int 0,.int 1]]++[Cell.lst [.int 3,.int 2]]++[Cell.lst [.ref ↥h,.ref (↥h+1)]]) (.ref ↥(h++[Cell.lst [.int 0,.int 1]]++[Cell.lst [.int 3,.int 2]])) (.int 1)=.ok (.ref (↥h+1)) _:=g0 (b:=1) rfl;unfold lfI O9;cases p<;>cases q
    · refine⟨0,by ac_nf,?_,rfl⟩;simp![v8,l1,a3L,z0,show ixD _ (.ref ↥h) (.int 0)=_ from r8 (i:=0) e2 rfl,az (show 2<=SL by decide),Bool.false_eq_true,if_false];rfl
    · refine⟨1,by ac_nf,?_,rfl⟩;simp![v8,l1,a3L,z0,show ixD _ (.ref ↥h) (.int 1)=_ from r8 (i:=1) e2 rfl,az (show 2<=SL by decide),Bool.false_eq_true,if_false,if_true];rfl
    · refine⟨3,by ac_nf,?_,by rw[show N2 y.fs true false=y.fs.getD (↥y.fs-1) "" from rfl,b4]⟩;simp![v8,l1,a3L,z1,show ixD _ (.ref (↥h+1)) (.int 0)=_ from r8 (i:=0) e3 rfl,az (show 2<=SL by decide),Bool.false_eq_true,if_false,if_true];rfl
    · refine⟨2,by ac_nf,?_,rfl⟩;simp![v8,l1,a3L,z1,show ixD _ (.ref (↥h+1)) (.int 1)=_ from r8 (i:=1) e3 rfl,az (show 2<=SL by decide),if_true];rfl
   rw[a4A hi,←fv'] at iv;have P3:=(((Pf.refl h).app [.lst [.int 0,.int 1]]).app [.lst [.int 3,.int 2]]).app [.lst [.ref ↥h,.ref (↥h+1)]];have ht:h++[Cell.lst [.int 0,.int 1]]++[Cell.lst [.int 3,.int 2]]++[Cell.lst [.ref ↥h,.ref (↥h+1)]]=h++([Cell.lst [.int 0,.int 1]]++[Cell.lst [.int 3,.int 2]]++[Cell.lst [.ref ↥h,.ref (↥h+1)]]):=by simp
   generalize h++[Cell.lst [.int 0,.int 1]]++[Cell.lst [.int 3,.int 2]]++[Cell.lst [.ref ↥h,.ref (↥h+1)]]=g at iv P3 ht;have x1':ixD g (.ref sv) ⇑j=.ok ⇑k g:=r8 (P3.at hs) (by rw[ak,ai hj,hkk];rfl);have st:=a8m (v:=.str (N2 y.fs p q)) (P3.at hf) kL;rw[←List.map_set] at st;refine⟨_,some (.str y.j),some (.tup (y.fs.map .str)),some (.bl p),some (.bl q),?_,⟨_,by rw[←ht]⟩⟩;rw[seq (bI:=O9 T l d sv fv e3 (some (.str y.j)) e5 (some (.tup (y.fs.map .str))) (j⁻¹) (some (.bl p)) (some (.bl q))) (h':=g.set fv (.lst ((L.set k (N2 y.fs p q)).map .str))) (by unfold lfS;rw[b2E,show tst ct c (.cmp .eq (.v 4) (.s "both")) (O9 T l d sv fv e3 (some (.str y.j)) e5 (some (.tup (y.fs.map .str))) (j⁻¹) (some (.bl p)) (some (.bl q))) h=.ok true h by unfold O9;simp![a1j,bf b],d9,az rfl,K4,b2D,iv,d9];unfold O9;simp![x1',st])]
   unfold lfK O9;simp![a1j,nb]
 · have q0:q=false:=none_l b;subst q0;have s1:ex ct c lfS (O9 T l d sv fv e3 (some (.str y.j)) e5 (some (.tup (y.fs.map .str))) (j⁻¹) (some (.bl p)) (some (.bl false))) h=.ok (.nx (O9 T l d sv fv e3 (some (.str y.j)) e5 (some (.tup (y.fs.map .str))) (j⁻¹) (some (.bl p)) (some (.bl false)))) h:=by unfold lfS O9;simp![a1j,bA b]
   rw[seq s1]
   by_cases bk:y.j="back"
   · have b2:=c0Z o bk;obtain⟨i,hi,iv,fv'⟩:∃i,i<↥y.fs/\(if p=true then(1:Int) else 0)=(i:Int)/\N2 y.fs p false=y.fs.getD i "":=by
      cases p
      · exact⟨0,by ac_nf,rfl,rfl⟩
      · exact⟨1,by ac_nf,rfl,by rw[show N2 y.fs true false=y.fs.getD (↥y.fs-1) "" from rfl,b2]⟩
     have fx:=a4A (h:=h) hi;rw[←fv'] at fx;have st:=a8m (v:=.str (N2 y.fs p false)) hf kL;rw[←List.map_set] at st;refine⟨h.set fv (.lst ((L.set k (N2 y.fs p false)).map .str)),some (.str y.j),some (.tup (y.fs.map .str)),some (.bl p),some (.bl false),?_,⟨[],by rw[bc]⟩⟩;unfold lfK O9;simp![a1j,bf bk,a3L,iv,fx,x1,st]
   · have p0:p=false:=none_r b bk;subst p0;refine⟨h,some (.str y.j),some (.tup (y.fs.map .str)),some (.bl false),some (.bl false),?_,⟨[],?_⟩⟩
     · unfold lfK O9;simp![a1j,bA bk]
     · rw[bc,show N2 y.fs false false=y.fs.getD 0 "" from rfl];have e1:L.set k (y.fs.getD 0 "")=L:=by
        apply ext_getElem?;intro i
        by_cases e:i=k
        · subst e;rw[List.getElem?_set_self (by rw[aa] at kL;exact kL),h0]
        · rw[List.getElem?_set_ne (Ne.symm e)]
       rw[e1];apply ext_getElem?;intro i
       by_cases e:i=fv
       · subst e;rw[w6 hf,hf]
       · rw[List.getElem?_set_ne (Ne.symm e)]
end
section
variable{ct:CT}{F:Nat->Option Fn}{H:HL}
theorem a6C{k l:Nat}{T:D}(hF:F 222=some M0)(t3:∀h,ixD h T (.int 3)=.ok (.ref q) h)(K:HLok H)(hq:h[q]? =some (.lst (H.ls.map ltD)))(hr:h[l]? =some (.lst (row.map .str)))(cP:∀x∈row,x∈H.ls.map (·.n))(hl:row.length<=63):b5 ct F (k+1) 222 [T,.ref l] h=.ok (.ref ↥h) (h++[.lst ((j0 H.ls row).map .str)]):=by
 have l6:=K.ls;obtain⟨e3,e4,e5,e6,w1⟩:=b4J (ct:=ct) (c:=b5 ct F k) (T:=T) (l:=.ref l) hq K.lsn nofun;have P2:=(Pf.refl h).app [.dict (lwL H.ls)];have hd:(h++[Cell.dict (lwL H.ls)])[↥h]? =some (.dict (lwL H.ls)):=b7;have sq:=b6 (g:=[Cell.dict []]) hq;obtain⟨d,hdl⟩:∃d,d=↥h:=⟨_,rfl⟩;rw[←hdl] at hd w1;generalize hg2:h++[Cell.dict (lwL H.ls)]=g2 at w1 P2 hd;have hr2:=P2.at hr;have rx:∀i (hi:i<row.length),ixD g2 (.ref l) ⇑i=.ok (.str row[i]) g2:=λi hi=>r8 hr2 (by rw[ak,ai hi];rfl);have dx:∀z∈row,ixD g2 (.ref d) (.str z)=.ok (.tup [.str (A8 H.ls z).j,.tup ((A8 H.ls z).fs.map .str)]) g2:=λz hz=>a8E (λl=>.tup [.str l.j,.tup (l.fs.map .str)]) hd (cP z hz);have le:biD .len g2 [.ref l]=.ok ⇑row.length g2:=by rw[n9 hr2,aa]
 have n1:ev ct (b5 ct F k) lfC [some T,~~~l,~~~d,e3,e4,e5,e6,none,none,none,none,none] g2=.ok (.ref ↥g2) (g2++[.lst ((b8 (c9 H.ls row)).map λi:Nat=>.int (i:Int))]):=by
  unfold lfC;rw[J0 (l:=(List.range row.length).map λi=>D.int ((0:Int)+(i:Nat))) (g:=[]) (h1:=g2) (by simp![le,W3 (h:=g2) (m:=row.length) nofun]) rfl (λx=>match x with
   |.int i=>a2E (c9 H.ls row) i.toNat
   |_=>false) id (λx=>[some x,~~~l,~~~d]) (λx hx=>by
   obtain⟨i,hi,rfl⟩:=ao.mp hx;have hi:=aQ.mp hi;rw[Int.zero_add];refine⟨rfl,?_,λ_=>rfl⟩;simp![rx i hi,dx _ (bu hi),a0S,b9N];show _=R.ok (a2E (c9 H.ls row) ((i:Int)).toNat) g2;congr 1;unfold a2E nc c9;rw[Int.toNat_natCast,bx,ak,ai hi];simp) (by rw[aa,aL];show _<=16777216;ac_nf),map_id,filter_map]
  congr 3;unfold b8;rw[a5s];have:((λx=>match x with
   |.int i=>a2E (c9 H.ls row) i.toNat
   |_=>false)∘λi:Nat=>D.int ((0:Int)+(i:Nat)))=a2E (c9 H.ls row):=funext λi=>by
   show a2E (c9 H.ls row) ((0:Int)+(i:Nat)).toNat=_;rw[Int.zero_add,Int.toNat_natCast]
  rw[this];refine congrArg Cell.lst (aZ λi _=>?_);rw[Int.zero_add]
 have P3:=P2.app [.lst ((b8 (c9 H.ls row)).map λi:Nat=>.int (i:Int))];have hs:(g2++[Cell.lst ((b8 (c9 H.ls row)).map λi:Nat=>.int (i:Int))])[↥g2]? =some (.lst ((b8 (c9 H.ls row)).map λi:Nat=>.int (i:Int))):=b7;have hd3:=b6 (g:=[Cell.lst ((b8 (c9 H.ls row)).map λi:Nat=>.int (i:Int))]) hd;generalize ↥g2=sv at n1 hs;generalize g2++[Cell.lst ((b8 (c9 H.ls row)).map λi:Nat=>.int (i:Int))]=g3 at n1 P3 hs hd3;have hr3:=P3.at hr;have n2:ev ct (b5 ct F k) lfF [some T,~~~l,~~~d,e3,e4,e5,e6,~~~sv,none,none,none,none] g3=.ok (.ref ↥g3) (g3++[.lst ((row.map λz=>(A8 H.ls z).fs.getD 0 "").map .str)]):=by
  unfold lfF;rw[o6 (l:=row.map .str) (g:=[(l,.lst (row.map .str))]) (h1:=g3) (by simp![M3,hr3]) (by simp only[gOk,all_cons,all_nil,hr3];simp) (λx=>match x with
   |.str z=>.str ((A8 H.ls z).fs.getD 0 "")
   |_=>.non) (λx=>[some x,~~~d]) (λx hx=>by
   obtain⟨z,hz,rfl⟩:=ao.mp hx;refine⟨rfl,?_⟩;have dz:ixD g3 (.ref d) (.str z)=.ok (.tup [.str (A8 H.ls z).j,.tup ((A8 H.ls z).fs.map .str)]) g3:=a8E (λl=>.tup [.str l.j,.tup (l.fs.map .str)]) hd3 (cP z hz);have t1:∀h,ixD h (.tup [.str (A8 H.ls z).j,.tup ((A8 H.ls z).fs.map .str)]) (.int 1)=.ok (.tup ((A8 H.ls z).fs.map .str)) h:=λh=>ix_tup (i:=1) rfl;have f0:=a4A (h:=g3) (K.lso _ (a8B (cP z hz))).few.1;simp![dz,t1,show ixD g3 (.tup ((A8 H.ls z).fs.map .str)) (.int 0)=_ from f0]) (by rw[aa];show _<=16777216;ac_nf),aK,aK]
  rfl
 have ls:biD .len (g3++[.lst ((row.map λz=>(A8 H.ls z).fs.getD 0 "").map .str)]) [.ref sv]=.ok (.int (↥(b8 (c9 H.ls row)):Int)) (g3++[.lst ((row.map λz=>(A8 H.ls z).fs.getD 0 "").map .str)]):=by rw[n9 (b6 hs),aa]
 have sl:↥(b8 (c9 H.ls row))<=63:=by unfold b8;have:=bw (a2E (c9 H.ls row)) (List.range ↥(c9 H.ls row));rw[aL,a5s] at this;rw[a5s];ac_nf
 obtain⟨bI,g',x1,L,f4,f6,f9,f10,f11,rfl,x2,x3,x4,x5⟩:=A9 (g:=[]) (p:=.nm 9) (body:=exs ct (b5 ct F k) lfL) (λj env g=>∃(L:List Str) (f4 f6 f9 f10 f11:Option D),env=O9 T l d sv ↥g3 e3 f4 e5 f6 f9 f10 f11/\Pf g3 g/\g[↥g3]? =some (.lst (L.map .str))/\↥L=row.length/\∀i,i<row.length->L[i]? =some (if i∈(b8 (c9 H.ls row)).take j then a0H H.ls row i else(A8 H.ls (row.getD i "")).fs.getD 0 "")) (λ_ _ _ _=>rfl) ((List.range ↥(b8 (c9 H.ls row))).map λi=>.int ((0:Int)+(i:Nat))) 0 (O9 T l d sv ↥g3 e3 e4 e5 e6 none none none) (g3++[.lst ((row.map λz=>(A8 H.ls z).fs.getD 0 "").map .str)]) (λj x env g hx hP=>by
  obtain⟨L,f4,f6,f9,f10,f11,rfl,p1,p2,p3,p4⟩:=hP;obtain⟨hj,rfl⟩:=a0U hx;rw[aC] at p4⊢;have hk:=b5R (bu hj);have nin:(b8 (c9 H.ls row))[j]∉(b8 (c9 H.ls row)).take j:=λm=>by obtain⟨i,hi,e⟩:=List.mem_iff_getElem.mp m;rw[aO] at hi;rw[List.getElem_take] at e;have:=a3h nofun hj e;ac_nf
  have h0:=p4 _ hk;rw[aA nin] at h0;obtain⟨g',a4,a6,a10,a11,b1,t,rfl⟩:=b4I (ct:=ct) (c:=b5 ct F k) (T:=T) (e3:=e3) (e4:=f4) (e5:=e5) (e6:=f6) (e10:=f10) (e11:=f11) K.lso (p1.at hr3) (p1.at hd3) (p1.at hs) p2 p3 cP hj h0;refine⟨O9 T l d sv ↥g3 e3 f4 e5 f6 (j⁻¹) f10 f11,_,_,rfl,b1,_,_,_,_,_,_,rfl,(p1.app t).set (aj _),w6 (b6 p2),by rw[length_set,p3],λi hi=>?_⟩;rw[take_succ_eq_append_getElem hj]
  by_cases e:i=(b8 (c9 H.ls row))[j]
  · subst e;rw[List.getElem?_set_self nofun,az (mem_append_right _ (.head _))]
  · rw[List.getElem?_set_ne (Ne.symm e),p4 i hi];congr 1;have:(i∈(b8 (c9 H.ls row)).take j++[(b8 (c9 H.ls row))[j]])↔i∈(b8 (c9 H.ls row)).take j:=by rw[aN,aR];exact⟨λz=>z.elim id λz=>absurd z e,.inl⟩
    by_cases m:i∈(b8 (c9 H.ls row)).take j
    · rw[az m,az (this.mpr m)]
    · rw[aA m,aA λz=>m (this.mp z)]) ⟨_,_,_,_,_,_,rfl,(Pf.refl g3).app _,b7,by rw[aa],λi hi=>by
  rw[take_zero,aA ⋯,ak,ai hi,show row.getD i ""=row[i] by rw[bx,ai hi];rfl];rfl⟩
 rw[aa,aL,aC,bh] at x5;have eL:L=j0 H.ls row:=by
  apply ext_getElem?;intro i;unfold j0
  by_cases hi:i<row.length
  · rw[x5 i hi,ak,aM hi];show some _=some (a0H H.ls row i);congr 1
    by_cases m:i∈b8 (c9 H.ls row)
    · rw[az m]
    · rw[aA m];obtain⟨a,b⟩:=far m;unfold a0H;rw[a,b];rfl
  · rw[aY nofun,aY (by rw[aa,aL];ac_nf)]
 rw[eL] at x3;rw[i6 hF rfl,M0];rw[seq (by simp![v8];rfl)];rw[seq (by simp![t3,M3,sq];rw[←hdl];exact w1)]
 rw[seq (by simp![n1];rfl)];rw[seq (by simp![n2];rfl)];rw[seq (by simp![ls,W3 (h:=g3++[.lst ((row.map λz=>(A8 H.ls z).fs.getD 0 "").map .str)]) (m:=↥(b8 (c9 H.ls row))) nofun];exact x1)]
 unfold O9;simp![];exact a2G (P3.trans x2) x3 (by have:=P3.len;ac_nf) (C2 _)
theorem b4y {k l i cut w0:Nat} {T:D} (t6:∀h,ixD h T (.int 6)=.ok (.ref i) h) (hi:h[i]? =some (.lst (fe.map feD))) (hr:h[l]? =some (.lst (row.map .str))) (rl:row.length<=63) (h3:↥fe<=3) (hc:cut<=row.length) (hs5:↥ss<=5) (cP:∀p∈ss,p.f∈fe.map (·.1)) (P:Pf h g) (hw:g[w0]? =some (.lst (ss.map sgD))) (hlw:↥h<=w0):
 ∃(g':AH) (w:Nat) (ts:List Sg) (e7 e8:Option D),ex ct (b5 ct F k) (.for (.tp (.nm 7>=>.nm 8>=>.nil)) (.seq (.ix (.v 1) (.i 6))) lwB) [some (.ref 0),some T,~~~n,~~~l,M⁻¹,~~~w0,cut⁻¹,none,none,none,none] g=.ok (.nx [some (.ref 0),some T,~~~n,~~~l,M⁻¹,~~~w,cut⁻¹,e7,e8,none,none]) g'/\Pf h g'/\g'[w]? =some (.lst ((ss++ts).map sgD))/\(∀p∈ts,p.o=false/\p.f∈fe.map (·.1))/\∀f∈fe.map (·.1),∀x:Nat,x<row.length->∃p∈ts,p.f=f/\p.a<=(x:Int)/\(x:Int)<=p.b:=by
 obtain⟨B,hB,hB2⟩:∃B:Int,(∀h,a6u h (.int 10) (.int 25)=.ok (.int B) h)/\1000<=B:=⟨10^25,λh=>rfl,by decide⟩;obtain ⟨bI,g',q1,w,ts,e7,e8,rfl,q2,q3,q4,q5,q6,q7⟩:=A9 (g:=[(i,.lst (fe.map feD))]) (p:=.tp (.nm 7>=>.nm 8>=>.nil)) (body:=exs ct (b5 ct F k) lwB) (λj env g=>∃(w:Nat) (ts:List Sg) (e7 e8:Option D),env=[some (.ref 0),some T,~~~n,~~~l,M⁻¹,~~~w,cut⁻¹,e7,e8,none,none]/\Pf h g/\g[w]? =some (.lst ((ss++ts).map sgD))/\↥h<=w/\↥ts<=2*j/\(∀p∈ts,p.o=false/\p.f∈fe.map (·.1))/\∀f∈(fe.take j).map (·.1),∀x:Nat,x<row.length->∃p∈ts,p.f=f/\p.a<=(x:Int)/\(x:Int)<=p.b) (λ_ _ g hP=>by
  obtain⟨_,_,_,_,_,p1,_⟩:=hP;simp only[gOk,all_cons,all_nil,p1.at hi];simp) (fe.map feD) 0 [some (.ref 0),some T,~~~n,~~~l,M⁻¹,~~~w0,cut⁻¹,none,none,none,none] g (λj x env g hx hP=>by
  obtain⟨w,ts,e7,e8,rfl,p1,p2,p3,p4,p5,p6⟩:=hP;rw[ak] at hx;obtain⟨y,hy,rfl⟩:=Option.map_eq_some_iff.mp hx;obtain⟨z1,z2⟩:=ac.mp hy;have ym:y.1∈fe.map (·.1):=ao.mpr ⟨y,aI hy,rfl⟩;rw[aC] at p4 p6⊢;rw[take_succ_eq_append_getElem z1,z2,aq];have ln:∀g,Pf h g->biD .len g [.ref l]=.ok ⇑row.length g:=λg P=>by rw[n9 (P.at hr),aa]
  have d3:u0 g ⇑M (.int 3)=.ok ⇑(M/3) g:=J1 3 ∅ ∅;have m2:v0 g ⇑(M/3) (.int 2)=.ok ⇑(M/3%2) g:=B8 2 ∅;have eq:J4 g ⇑(M/3%2) (.int 0)=.ok (.bl (decide (((M/3%2:Nat):Int)=0))) g:=rfl;have sl:↥(ss++ts)<=100:=by rw[au];ac_nf
  have cov:∀us:List Sg,(∀x:Nat,x<row.length->∃p∈us,p.f=y.1/\p.a<=(x:Int)/\(x:Int)<=p.b)->∀f∈(fe.take j).map (·.1)++[y].map (·.1),∀x:Nat,x<row.length->∃p∈ts++us,p.f=f/\p.a<=(x:Int)/\(x:Int)<=p.b:=λus hu f hf x hx=>by
   rcases aN.mp hf with hf|hf
   · obtain⟨p,a,b⟩:=p6 f hf x hx;exact⟨p,mem_append_left _ a,b⟩
   · rw[List.map_singleton,aR] at hf;subst hf;obtain⟨p,a,b⟩:=hu x hx;exact⟨p,mem_append_right _ a,b⟩
  by_cases c1:((M/3%2:Nat):Int)=0
  · have ap:=K0 (d:=sgD ⟨y.1,0,(row.length:Int),false⟩) p2 (by rw[aa];ac_nf);refine⟨[some (.ref 0),some T,~~~n,~~~l,M⁻¹,~~~w,cut⁻¹,some (.str y.1),some (.bl y.2),none,none],[some (.ref 0),some T,~~~n,~~~l,M⁻¹,~~~w,cut⁻¹,some (.str y.1),some (.bl y.2),none,none],g.set w (.lst ((ss++ts).map sgD++[sgD ⟨y.1,0,(row.length:Int),false⟩])),rfl,?_,w,ts++[⟨y.1,0,(row.length:Int),false⟩],_,_,rfl,p1.set p3,?_,p3,by rw[au,length_singleton];ac_nf,λp hp=>?_,cov _ λx hx=>⟨_,.head _,rfl,by show(0:Int)<=_;ac_nf,by show(x:Int)<=(row.length:Int);ac_nf⟩⟩
    · unfold lwB lwA;simp![op2,d3,m2,eq,bf c1,D3 p2,ln g p1,az (show 4<=SL by decide),show D.tup [.str y.1,.int 0,.int (row.length:Int),.bl false]=sgD ⟨y.1,0,(row.length:Int),false⟩ from rfl,ap]
    · rw[←aB,aq (l₁:=ss++ts)];exact w6 p2
    · rcases aN.mp hp with hp|hp
      · exact p5 p hp
      · rw[aR.mp hp];exact⟨rfl,ym⟩
  · have ad:=a3Y (g:=g++[.lst [sgD ⟨y.1,(cut:Int),B,false⟩,sgD ⟨y.1,-5,(cut:Int),false⟩]]) (b6 p2) b7 (by rw[aa];show _+2<=100000;ac_nf);refine⟨[some (.ref 0),some T,~~~n,~~~l,M⁻¹,~~~w,cut⁻¹,some (.str y.1),some (.bl y.2),none,none],[some (.ref 0),some T,~~~n,~~~l,M⁻¹,some (.ref ↥(g++[Cell.lst [sgD ⟨y.1,(cut:Int),B,false⟩,sgD ⟨y.1,-5,(cut:Int),false⟩]])),cut⁻¹,some (.str y.1),some (.bl y.2),none,none],g++[.lst [sgD ⟨y.1,(cut:Int),B,false⟩,sgD ⟨y.1,-5,(cut:Int),false⟩]]++[.lst ((ss++ts).map sgD++[sgD ⟨y.1,(cut:Int),B,false⟩,sgD ⟨y.1,-5,(cut:Int),false⟩])],rfl,?_,↥(g++[Cell.lst [sgD ⟨y.1,(cut:Int),B,false⟩,sgD ⟨y.1,-5,(cut:Int),false⟩]]),ts++[⟨y.1,(cut:Int),B,false⟩,⟨y.1,-5,(cut:Int),false⟩],_,_,rfl,(p1.app _).app _,?_,(p1.app _).len,by rw[au];show ↥ts+2<=_;ac_nf,λp hp=>?_,cov _ λx hx=>?_⟩
    · unfold lwB lwC;simp![op2,d3,m2,eq,bA c1,hB,az (show 4<=SL by decide),az (show 2<=SL by decide),v8,show D.tup [.str y.1,.int (cut:Int),.int B,.bl false]=sgD ⟨y.1,(cut:Int),B,false⟩ from rfl,show D.tup [.str y.1,.int (-5),.int (cut:Int),.bl false]=sgD ⟨y.1,-5,(cut:Int),false⟩ from rfl,ad]
    · rw[←aB,aq (l₁:=ss++ts)];exact b7
    · rcases aN.mp hp with hp|hp
      · exact p5 p hp
      · rcases aH.mp hp with rfl|hp
        · exact⟨rfl,ym⟩
        · rw[aR.mp hp];exact⟨rfl,ym⟩
    · by_cases c:cut<=x
      · exact⟨_,.head _,rfl,by show(cut:Int)<=_;ac_nf,by show(x:Int)<=B;ac_nf⟩
      · exact⟨_,.tail _ (.head _),rfl,by show(-5:Int)<=_;ac_nf,by show(x:Int)<=(cut:Int);ac_nf⟩) ⟨w0,[],none,none,rfl,P,by rw[bc];exact hw,hlw,Nat.zero_le _,(λ_ h=>nomatch h),λf hf=>by rw[take_zero] at hf;cases hf⟩
 rw[aa,aC,bh] at q7;refine⟨g',w,ts,e7,e8,?_,q2,q3,q6,q7⟩;simp![t6,M3,P.at hi];exact q1
variable(W:PF F)(Q:DF F)
include W Q
theorem b4M{k l s d':Nat}{ts:List Sg}{T M c:D}{e7 e8:Option D}(f33:F 33=some B6)(f34:F 34=some N3)(f35:F 35=some C0)(f36:F 36=some C9)(f37:F 37=some E7)(f48:F 48=some a0g)(f49:F 49=some F8)(eN:F 217=some J6)(f220:F 220=some F6)(f222:F 222=some M0)(K:HLok H)(h4:↥H.ru=4)(A:HallAt g n (M4 H))(t3:∀h,ixD h T (.int 3)=.ok (.ref d') h)(hq:g[d']? =some (.lst (H.ls.map ltD)))(hl:g[l]? =some (.lst (row.map .str)))(hs:g[s]? =some (.lst ((ss++ts).map sgD)))(r2:∀x∈row,x∈H.ls.map (·.n))(r50:row.length<=50)(cP:∀p∈ss,p.f∈H.fe.map (·.1))(ht:∀p∈ts,p.o=false/\p.f∈H.fe.map (·.1))(cov:∀f∈H.fe.map (·.1),∀x:Nat,x<row.length->∃p∈ts,p.f=f/\p.a<=(x:Int)/\(x:Int)<=p.b):
 ∃h',exs ct (b5 ct F (k+7)) lwE [some (.ref 0),some T,~~~n,~~~l,some M,~~~s,some c,e7,e8,none,none] g=.ok (.rt (.bl true)) h':=by
 have fl:↥(j0 H.ls row)=row.length:=by unfold j0;rw[aa,aL]
 obtain⟨fc1,fc2⟩:=a7Q (j0 H.ls row) 0;have lf:=a6C (ct:=ct) (k:=k+6) f222 t3 K hq hl r2 nofun;have P1:=((Pf.refl g).app [.lst ((j0 H.ls row).map .str)]).app [.lst ((fcL 0 (j0 H.ls row)).map clD)];have fe:=a6O (ct:=ct) (c:=b5 ct F (k+7)) (a:=(.call 222 (.v 1>=>.o (.v 3)))) (env:=[some (.ref 0),some T,~~~n,~~~l,some M,~~~s,some c,e7,e8,none,none]) (h:=g) (h1:=g++[.lst ((j0 H.ls row).map .str)]) (w:=↥g) (fs:=j0 H.ls row) (by simp![lf]) b7 nofun;have c1:(g++[Cell.lst ((j0 H.ls row).map .str)]++[.lst ((fcL 0 (j0 H.ls row)).map clD)])[↥(g++[Cell.lst ((j0 H.ls row).map .str)])]? =some (.lst ((fcL 0 (j0 H.ls row)).map clD)):=b7;generalize ↥(g++[Cell.lst ((j0 H.ls row).map .str)])=w9 at fe c1;generalize g++[Cell.lst ((j0 H.ls row).map .str)]++[Cell.lst ((fcL 0 (j0 H.ls row)).map clD)]=g1 at fe P1 c1;obtain⟨u,w1,n1,q1,q2,q3,q4,_⟩:=a9r (ct:=ct) (k:=k) W Q f33 f34 f35 f36 f37 f48 f49 K (A.pf P1) (P1.at hl) r2 nofun (P1.at hs) (λp hp=>by
  rcases aN.mp hp with hp|hp
  · exact cP p hp
  · exact(ht p hp).2) (by rw[h4];show _*81<=_;ac_nf)
 rw[b0D K (λf hf x hx=>by obtain⟨k,rfl,hk⟩:=c0l hx;exact b4z (λp hp=>(ht p hp).1) (.inl (cov f hf k nofun))) H.ru [] λ_ h=>h,h4] at q3 q4
 have ic:=a7H (ct:=ct) (k:=k+5) eN f220 q3 (by show(o7 (fcL 0 (j0 H.ls row))).length<=_;ac_nf);have p0:∀h,ixD h (.tup [.ref w1,.ref n1]) (.int 0)=.ok (.ref w1) h:=λh=>ix_tup (i:=0) rfl;have p1:∀h,ixD h (.tup [.ref w1,.ref n1]) (.int 1)=.ok (.ref n1) h:=λh=>ix_tup (i:=1) rfl;have lnT:biD .len u [.tup [.ref w1,.ref n1]]=.ok (.int 2) u:=rfl;have ne2:op2 .ne u (.int 2) (.int 2)=.ok (.bl false) u:=rfl;have cm:ev ct (b5 ct F (k+7)) lwN [some (.ref 0),some T,~~~n,~~~l,some M,~~~s,some c,e7,e8,~~~w9,some (.tup [.ref w1,.ref n1])] u=.ok (.ref ↥u) (u++[.lst ([0,0,0,0].map λ_:Nat=>D.bl true)]):=by
  unfold lwN;rw[o6 (l:=nsD [0,0,0,0]) (g:=[(n1,.lst (nsD [0,0,0,0]))]) (h1:=u) (by simp![p1,M3,q4]) (by simp only[gOk,all_cons,all_nil,q4];simp) (λ_=>.bl true) (λx=>[some x]) (λx hx=>by obtain⟨i,_,rfl⟩:=ao.mp hx;refine⟨rfl,?_⟩;simp![a5V eN]) ∅]
  rfl
 have al:biD .all (u++[.lst ([0,0,0,0].map λ_:Nat=>D.bl true)]) [.ref ↥u]=.ok (.bl true) (u++[.lst ([0,0,0,0].map λ_:Nat=>D.bl true)]):=X9 (P:=λ_=>true);have Pu:=(P1.trans q2).app [.lst ([0,0,0,0].map λ_:Nat=>D.bl true)];have eqv:=(b5q (h:=u++[.lst ([0,0,0,0].map λ_:Nat=>D.bl true)]++[.lst (nsD [0,0,0,0])]) (b6 (b6 q3)) (b6 (b6 q4)) (b6 (b6 (q2.at c1))) (d:=↥(u++[Cell.lst ([0,0,0,0].map λ_:Nat=>D.bl true)])) b7).1;have eqv':op2 .eq (u++[.lst ([0,0,0,0].map λ_:Nat=>D.bl true)]++[.lst [.int 0,.int 0,.int 0,.int 0]]) (.tup [.ref w1,.ref n1]) (.tup [.ref w9,.ref ↥(u++[Cell.lst ([0,0,0,0].map λ_:Nat=>D.bl true)])])=.ok (.bl true) (u++[.lst ([0,0,0,0].map λ_:Nat=>D.bl true)]++[.lst [.int 0,.int 0,.int 0,.int 0]]):=eqv;refine⟨u++[.lst ([0,0,0,0].map λ_:Nat=>D.bl true)]++[.lst [.int 0,.int 0,.int 0,.int 0]],?_⟩;generalize u++[Cell.lst ([0,0,0,0].map λ_:Nat=>D.bl true)]=v at cm al eqv'⊢;unfold lwE;rw[seq (by simp![fe];rfl)];rw[seq (by simp![q1];rfl)];rw[seq (by unfold b9Q;simp![a2m,b5Y,lnT,ne2,p0,ic,Bool.not_true];rfl)]
 rw[seq (by unfold b9P;simp![a2m,p1,b1Q q4,cm,al,Bool.not_true];rfl)]
 simp![az (show 4<=SL by decide),az (show 2<=SL by decide),v8,eqv']
theorem b7z{d:Nat}(f33:F 33=some B6)(f34:F 34=some N3)(f35:F 35=some C0)(f36:F 36=some C9)(f37:F 37=some E7)(f48:F 48=some a0g)(f49:F 49=some F8)(dP:F 201=some I0)(bQ:F 202=some p8)(cp:F 203=some o9)(f204:F 204=some D8)(da:F 205=some C1)(f206:F 206=some F5)(f207:F 207=some E1)(f208:F 208=some D0)(f209:F 209=some D1)(dE:F 210=some C6)(f211:F 211=some B7)(f212:F 212=some L9)(dY:F 213=some E2)(f214:F 214=some D9)(f215:F 215=some J7)(f216:F 216=some O1)(eN:F 217=some J6)(f218:F 218=some K3)(f219:F 219=some E8)(f220:F 220=some F6)(f222:F 222=some M0)(f221:F 221=some a8R)(cP:ct.init 6=32):∃h',b5 ct F (d+11) 221 [.ref 0] [.rol (ns.map .int)]=.ok (.bl true) h':=by
 generalize hg0:[Cell.rol (ns.map .int)]=g0;have hr:g0[0]? =some (.rol (ns.map .int)):=by rw[←hg0];rfl
 obtain⟨H,g3,a,b,c,d',e,f,i,j,K,bU,P3,A,hH⟩:=b4X (ct:=ct) (k:=d+7) (n:=0) (m:=4) (ns:=ns) (h:=g0) dP bQ cp f204 da f206 f207 f208 f209 dE f211 f212 hr ∅;have hT:=b2a (ct:=ct) (k:=d+8) K dY f214 f215 A;obtain⟨g4,ht,hA,hR⟩:=a5d (ct:=ct) (d:=d+8) (h:=g3) (text:=a8O H) (H':=M4 H) W cP (by have:=b3u K;ac_nf) (by rw[a9i K];exact a9v W K);have P4:Pf g3 g4:=⟨by rw[←ht,aO];ac_nf,λi hi=>by
  have:(g4.take ↥g3)[i]? =g3[i]? :=by rw[ht]
  rw[←this,bC hi]⟩
 have hr4:g4[0]? =some (.rol (ns.map .int)):=P4.at (P3.at hr);have a3:=P4.at A.ls;have a6:=P4.at A.fe;have t3:∀h,ixD h (.tup [.ref a,.ref b,.ref c,.ref d',.ref e,.ref f,.ref i,.ref j]) (.int 3)=.ok (.ref d') h:=λh=>ix_tup (i:=3) rfl;have t6:∀h,ixD h (.tup [.ref a,.ref b,.ref c,.ref d',.ref e,.ref f,.ref i,.ref j]) (.int 6)=.ok (.ref i) h:=λh=>ix_tup (i:=6) rfl;generalize hTt:D.tup [.ref a,.ref b,.ref c,.ref d',.ref e,.ref f,.ref i,.ref j]=T at hH hT t3 t6;obtain⟨row,r1,r2,r3⟩:=b6G (ct:=ct) (k:=d+8) (m:=50) bQ f216 hr4 a3 K.ls.1 ∅;have z50:row.length<=50:=by rw[r1,aO];ac_nf
 have P5:=(Pf.refl g4).app [.lst (row.map .str)];have c5:(g4++[Cell.lst (row.map .str)])[↥g4]? =some (.lst (row.map .str)):=b7;generalize g4++[Cell.lst (row.map .str)]=g5 at r3 P5 c5;obtain⟨cl5,hcl⟩:=a0F (ct:=ct) (k:=d+9) (j:=5) dP (P5.at hr4);obtain⟨M,hM⟩:=B9 (ct:=ct) (k:=d+9) (c:=cl5) (j:=7) (h:=g5) bQ ∅;have l5:∀g,Pf g5 g->biD .len g [.ref ↥g4]=.ok ⇑row.length g:=λg P=>by rw[n9 (P.at c5),aa]
 obtain⟨ss,s0,s1,s2⟩:=a6h (ct:=ct) (k:=d+8) (cell:=M) (bL:=row.length) bQ f218 f219 (P5.at a6) K.fe.1 nofun;have P6:=(Pf.refl g5).app [.lst (ss.map sgD)];have l6:=l5 _ P6;have d100:u0 (g5++[.lst (ss.map sgD)]) ⇑M (.int 100)=.ok ⇑(M/100) (g5++[.lst (ss.map sgD)]):=J1 100 ∅ ∅;have a1:O5 (g5++[.lst (ss.map sgD)]) ⇑row.length (.int 1)=.ok ⇑(row.length+1) (g5++[.lst (ss.map sgD)]):=by rw[bv];rfl
 have cu:M/100%(row.length+1)<=row.length:=Nat.le_of_lt_succ (Nat.mod_lt _ (Nat.succ_pos _));obtain⟨g7,w,ts,e7,e8,q1,P7,q3,q4,q5⟩:=b4y (ct:=ct) (F:=F) (k:=d+10) (n:=↥g3) (M:=M) t6 (P5.at a6) c5 nofun K.fe.2 cu s0 s1 P6 b7 (aj _);obtain⟨h',le⟩:=b4M (ct:=ct) (k:=d+3) (T:=T) (M:=.int (M:Int)) (c:=.int ((M/100%(row.length+1):Nat):Int)) (e7:=e7) (e8:=e8) W Q f33 f34 f35 f36 f37 f48 f49 eN f220 f222 K bU (hA.pf (P5.trans P7)) t3 ((P5.trans P7).at a3) (P7.at c5) q3 r2 z50 s1 q4 q5;refine⟨h',?_⟩;rw[i6 f221 rfl,a8R];rw[gc0];rw[seq (by simp![show b5 ct F (d+10) 212 [.ref 0,.int 4] g0=_ from hH];rfl)];rw[seq (by simp![hT,hR];rfl)];rw[seq (by simp![t3,show b5 ct F (d+10) 216 [.ref 0,.int 6,.int 50,.ref d'] g4=_ from r3];rfl)];rw[seq (by simp![show b5 ct F (d+10) 201 [.ref 0,.int 5] g5=.ok (.int cl5) g5 from hcl,hM];rfl)];rw[seq (by simp![t6,l5 g5 (Pf.refl g5),s2];rfl)];rw[seq (by simp![op2,d100,l6,a1,B8 (row.length+1) (Nat.succ_pos _)];rfl)];rw[seq q1,le];rfl
end
end EV
namespace K23
open PySem L2 EV
theorem pf:PF F:=⟨rfl,rfl,rfl,rfl,rfl,rfl,rfl,rfl,rfl,rfl,rfl,rfl,rfl,rfl,rfl,rfl,rfl,rfl,rfl,rfl,rfl,rfl,rfl,rfl,rfl,rfl,rfl,rfl,rfl,rfl,rfl,rfl⟩
end K23
theorem a7G:∀ns:List Int,↥ns<=63->∃h',EV.b5 K23.ct K23.F 20 221 [.ref 0] [.rol (ns.map .int)]=.ok (.bl true) h':=λns _=>EV.b7z (d:=9) K23.pf ⟨rfl,rfl,rfl,rfl,rfl,rfl,rfl,rfl,rfl,rfl⟩ rfl rfl rfl rfl rfl rfl rfl rfl rfl rfl rfl rfl rfl rfl rfl rfl rfl rfl rfl rfl rfl rfl rfl rfl rfl rfl rfl rfl rfl rfl
open PySem PySem.W PyProof.Rows
end
namespace PySem.W.Fast
def tw4962833291897179911:=0
def tw3094701115853657799:=0
def tw18238527295441131724:=0
def tw7577222553937453435:=0
def tw1647960591809683682:=0
def tw16406152630007581043:=0
def tw3257834696953446728:=0
def tw7242484377202727313:=0
def tw10187197510623769229:=0
def tw15519299588005465827:=0
def tw2352612917782964495:=0
def tw4077504559007278572:=0
def tw14846608996346228861:=0
def tw11970942820725077907:=0
def tw15493880193923171067:=0
def tw2766794811542550618:=0
def tw12692329058183122095:=0
def tw10276631330486657221:=0
def tw11300376045408061371:=0
def tw2781423013664490619:=0
def tw4901958682385802004:=0
def tw8667492640987031791:=0
def tw13236131704021521816:=0
def tw5681066748535004433:=0
def tw5958337225494893492:=0
def tw14827384380277173613:=0
def tw17100184641858439841:=0
def tw6285040191614719466:=0
def tw3528903376305711396:=0
def tw1826987945724244988:=0
def tw8008005557923197168:=0
def tw15790453512448054794:=0
def tw1462193419119380569:=0
def tw2283480497557504744:=0
def tw14734032772098568817:=0
def tw1191315250883676292:=0
def tw13197444509695450237:=0
def tw704147369595269066:=0
def tw15772355805533515408:=0
def tw7317234293075219:=0
def tw14949513074056673275:=0
def tw15943592676296772274:=0
def tw1322031339247656150:=0
def tw4491058772748593153:=0
def tw9156678896304099913:=0
def tw6771182271545134960:=0
def tw5587826856885255690:=0
def tw8131721106225051767:=0
def tw12694589447371642155:=0
def tw14869557710840242666:=0
def tw2337977823195543630:=0
def tw3414106826494052011:=0
def tw4466625985826531108:=0
def tw1901531775752417231:=0
def tw13078823862939028812:=0
def tw7492102371377302679:=0
def tw2294854397974045510:=0
def tw1354003750591732747:=0
def tw1712973634487312807:=0
def tw16002967266952078866:=0
def tw15078095837771203109:=0
def tw2944391684731814369:=0
def tw13056512690104125533:=0
def tw2947586027576077979:=0
def tw4268201051430804902:=0
def tw11843833423457600547:=0
def tw3369663099759083609:=0
def tw6012122021747098740:=0
def tw2912592304959361012:=0
def tw17513604867990543079:=0
def tw1567247161763788871:=0
def tw7942853410682446962:=0
def tw10241233070082051121:=0
def tw16919330064296535691:=0
def tw6784790241324674965:=0
def tw4543556514994620149:=0
def tw17837415989878807268:=0
def tw9192171586001469603:=0
def tw8249347019533418915:=0
def tw2747774915501398362:=0
def tw550859730669387710:=0
def tw12487779173672901959:=0
def tw12048056826642495367:=0
def tw16950569574821323974:=0
def tw15886500619415505586:=0
def tw4799189423077775474:=0
def tw7363425622247834253:=0
def tw729466047920990731:=0
def tw2456577590951144490:=0
def tw5713610079918043996:=0
def tw9835382159548102362:=0
def tw305048472116853797:=0
def tw4153491320931672185:=0
def tw16968176118458789586:=0
def tw1833547357909804662:=0
def tw1176975735165151067:=0
def tw5738919822854818926:=0
def tw13840814423707232359:=0
def tw6582134788679801411:=0
def tw3016012700857477809:=0
def tw316514102143019080:=0
def tw5759927347364260171:=0
def tw3345597093286824917:=0
def tw11224361182253327997:=0
def tw2450569374399577549:=0
def tw12068798485007620914:=0
def tw12434779806091606683:=0
def tw4842887358765978389:=0
def tw7158441374720773216:=0
def tw11630328935867623959:=0
def tw12079628635447562283:=0
def tw7042659310547366237:=0
def tw8933567498414919238:=0
def tw4248988804066548162:=0
def tw8174591469460913490:=0
def tw8934421753687110507:=0
def tw17643754061406199020:=0
def tw5609530884314319229:=0
def tw17925384258215065573:=0
def tw17456480263006714056:=0
def tw2680141511932349947:=0
def tw8605165415444627158:=0
def tw12996339429388188178:=0
def tw11712190458185945011:=0
def tw4185518321428705831:=0
def tw15845117809764550140:=0
def tw17427895641331663283:=0
def tw6731276024794131016:=0
def tw12221415409051222339:=0
def tw4033379813872489195:=0
def tw9455475090630465045:=0
def tw9161490523856799436:=0
def tw9508736203920968164:=0
def tw18042889414512086050:=0
def tw12976177241038019767:=0
def tw15221209806709932071:=0
def tw16915470645016011554:=0
def tw8839083969933755074:=0
def tw15632992782082381434:=0
def tw5015507407206683207:=0
def tw18329075359065952542:=0
def tw7090585071989052306:=0
def tw10335527622381539264:=0
def tw4626940704210403192:=0
def tw14245618210516037357:=0
def tw16131593051203169754:=0
def tw539595736760451978:=0
def tw5353813085845620550:=0
def tw5916140570258018564:=0
def tw8436589768386056944:=0
def tw9601000219436670146:=0
def tw14267268813261638861:=0
def tw1391549112126926301:=0
def tw7618804249908900691:=0
def tw5845538515087863352:=0
def tw6760056911573607715:=0
def tw4589182232624314844:=0
def tw10069975712529536831:=0
def tw8454840944936950519:=0
def tw425938344300624212:=0
def tw9305391788130653963:=0
def tw13436231055378572716:=0
def tw16172578528114110199:=0
def tw16286715671046524454:=0
def tw8697654515486363317:=0
def tw16266442582153907279:=0
def tw13481268755573549168:=0
def tw3555141088238359772:=0
def tw12392129776423771058:=0
def tw13708279966662545973:=0
def tw6708892414054319099:=0
def tw11320351676317602388:=0
def tw17698735102306075112:=0
def tw358491328311820773:=0
def tw17590088832654516399:=0
def tw14501001857826371202:=0
def tw5107255825281412738:=0
def tw15155859288707382567:=0
def tw11622863634709415212:=0
def tw11654023200298843171:=0
def tw7328447075739424539:=0
def tw11519117686961666697:=0
def tw10762484250532422250:=0
def tw6905212232875527693:=0
def tw12978678129208030876:=0
def tw15213048550514571353:=0
def tw17969941481158815411:=0
def tw14199714164133228370:=0
def tw15431134087688302020:=0
def tw11118301316682269745:=0
def tw10390157646234782899:=0
def tw6623812351622530092:=0
def tw17960848765466677729:=0
def tw9516800180062724845:=0
def tw6793172497655745189:=0
def tw3822784309164373692:=0
def tw17093224777342109595:=0
def tw4674102799890499726:=0
def tw5613845454599061817:=0
def tw7910172739516966087:=0
def tw644751248652905101:=0
def tw15137687247720179910:=0
def tw12694112234171929671:=0
def tw2962324470309885386:=0
def tw12300527617525357084:=0
def tw17849293660312457548:=0
def tw14987661418082201831:=0
def tw5485572742587201778:=0
def tw4968929673044707356:=0
def tw16472409268878238316:=0
def tw7894344252036594922:=0
def tw17802128708061929859:=0
def tw2202087279664922802:=0
def tw14678158920106854735:=0
def tw2257529940240947247:=0
def tw5388663596951873645:=0
def tw3285859953031059425:=0
def tw13508602156133886167:=0
def tw529536973988259948:=0
def tw4157206338815638501:=0
def tw7498633149979677338:=0
def tw13553050674002434610:=0
def tw3101917741504857134:=0
def tw742405457713269000:=0
def tw5030944203280556702:=0
def tw3103751414666246812:=0
def tw931956834028986255:=0
def tw7945405709010385892:=0
def tw17334881123488906936:=0
def tw14731147920152588799:=0
def tw1349388230604553621:=0
def tw6737687440995333003:=0
def tw3520363519792060846:=0
def tw9897558803702562313:=0
def tw16970792351503237766:=0
def tw11990459337992974956:=0
def tw734138898119960010:=0
def tw16550838102048051623:=0
def tw8903238766108814736:=0
def tw804092199982636349:=0
def tw13829591483307370896:=0
def tw3172541193896328996:=0
def tw16749348522385944071:=0
def tw13792483299354683862:=0
def tw9296360433889664002:=0
def tw4211700434839312001:=0
def tw3133745999044795564:=0
def tw18431155831084640082:=0
def tw16884622931589843948:=0
def tw14722794537435163219:=0
def tw1267704075650749254:=0
def tw3373145609055282853:=0
def tw3307598998989760257:=0
def tw17312996333117680517:=0
def tw8621301723031713458:=0
def tw1541540961381408409:=0
def tw12712400820596877648:=0
def tw15248526436251307398:=0
def tw2133357390318303931:=0
def tw1944925098504758534:=0
def tw9761588102954696855:=0
def tw897888412878121761:=0
def tw7586693836618795562:=0
def tw714049069090440106:=0
def tw7089793799200125183:=0
def tw7076977106511060911:=0
def tw6664951462986138201:=0
def tw6662249597110656733:=0
def tw6606014719576569030:=0
def tw6315216371427503177:=0
def tw5552461122284547459:=0
def tw4954584648838934644:=0
def tw4636031889025220839:=0
def tw4340971767527515617:=0
def tw4179031660912777645:=0
def tw3992908553847606798:=0
def tw3904583755211930517:=0
def tw3808584094389355786:=0
def tw306725001281121169:=0
def tw2754692670688779762:=0
def tw274189353798237994:=0
def tw2385268686561707046:=0
def tw1880258362356491002:=0
def tw18221076124747093969:=0
def tw18167724695441219349:=0
def tw17857563459279650048:=0
def tw17845374550828520631:=0
def tw16925118299729312639:=0
def tw1611551182742943237:=0
def tw15862806813707239167:=0
def tw15854262060937163188:=0
def tw15740581520725410121:=0
def tw15679247252792206210:=0
def tw15508019666092448443:=0
def tw15261137711255440680:=0
def tw15069716523494295500:=0
def tw14015890951069844909:=0
def tw13989995598129119793:=0
def tw13884827974113296321:=0
def tw13323373534744806615:=0
end PySem.W.Fast
open_top head for PySem.Challenge.rw_glyphhall_k23_all_features_off
theorem PySem.Challenge.cw_glyphhall_k23_all_features_off_holds : PySem.Challenge.rw_glyphhall_k23_all_features_off.Holds :=
 head (by
 refine K23.b8W (l:=PySem.Challenge.rw_glyphhall_k23_all_features_off) (n:=63) (k:=46) (x:="_law_script") (CX:=fun _=>L2.CX0) (sp:=K23.spK) rfl (by decide) rfl ⟨rfl,by decide,by decide⟩ (fun w h Y=>PySem.W.kIn_of Y) ?F ?S ?C
 case F=>
  intro w mg fa h KX G hmg;have T:∃cA,K23.DfE (L2.KOf KX) "law" (K23.top 100)/\∀{h:Heap} {mg:Str->Option Value},(L2.KOf KX).In h->h.Ns mainGlobals mg->EV.Stat PySem.Challenge.rw_glyphhall_k23_all_features_off.prog w ⟨L2.KOf KX,cA,[6],[]⟩ K23.G K23.ct K23.F mg:=by
   dsimp only[L2.KOf]
   clear hmg;refine' K23.b3K ?a0 ?a1 ?a2 ?a3 ?a4 ?a5 ?a6 ?a7 ?a8 ?a9 ?a10 ?a11 ?a12 ?a13 ?a14 ?a15 ?a16 ?a17 ?a18 ?a19 ?a20 ?a21 ?a22 ?a23 ?a24 ?a25 ?a26 ?a27 ?a28 ?a29 ?a30 ?a31 ?a32 ?a33 ?a34 ?a35 ?a36 ?a37 ?a38 ?a39 ?a40 ?a41 ?a42 ?a43 ?a44
   (case a0|a23|a24|a25|a26|a27|a28|a29|a30|a31|a32|a33|a34|a35|a36|a37|a38|a39|a40|a41|a42|a43|a44=>k_is)
   (case a1=>(repeat (refine' K23.ds1 ?f _;(case f=>refine' K23.c0r ?x ?y ?z ?u;(case x=>k_is);(case y=>k_is);(case z=>k_is);(case u=>k_is))));exact True.intro)
   (case a2|a3|a4=>refine' K23.b6z ?e1;(case e1=>k_is))
   (case a5|a6|a7|a8|a9|a10|a11|a12|a13|a14|a15=>refine' K23.b7L ?e1;(case e1=>k_is))
   (case a16|a17|a19=>refine' K23.b3x ?e1 ?e2;(case e1=>k_is);(case e2=>k_is))
   (case a18=>refine' K23.b3w ?e1 ?e2;(case e1=>k_is);(case e2=>k_is))
   (case a20=>refine' K23.b5x ?e1 ?e2 ?e3 ?e4 ?e5 ?e6 ?e7 ?e8;(case e1=>k_is);(case e2=>k_is);(case e3=>decide);(case e4=>rfl);(case e5=>rfl);(case e6=>rfl);(case e7=>rfl);(case e8=>decide))
   (case a21=>refine' K23.b4Y ?m1 ?m2 ?m3 ?m4 ?e2 ?e3 ?e4;(case m1=>k_is);(case m2=>k_is);(case m3=>k_is);(case m4=>k_is);(case e2=>k_is);(case e3=>k_is);(case e4=>k_is))
   (case a22=>refine' ⟨?p1,?p2,?p3,?p4⟩;(case p1=>k_is);(case p2=>k_is);(case p3=>k_is);(case p4=>k_is))
  obtain⟨cA,D,T⟩:=T;obtain⟨fd,h1,h2⟩:=K23.b7T D (T KX G) KX G hmg;exact⟨fd,h1,fun base _ _=>h2 base⟩
 case S=>
  intro w H a ns hl hO hS;refine K23.b7y a7G ?nl hl hO hS
  (case nl=>kernel_rfl)
 case C=>exact fun w H s e s' z=>z)
