"""Routines that always leave a correct mesh, and books of them."""

import re

JOIN = """routine join a b
given a.face == b.face
given a != b
let c = a.prev
let d = b.prev
let g = a.face
let u = a.corner
let v = b.corner
make p q
c.next = p
p.prev = c
p.next = b
b.prev = p
d.next = q
q.prev = d
q.next = a
a.prev = q
p.face = g
g.some = p
new face f
round q.face = f
f.some = q
p.corner = u
q.corner = v
tell p"""

# An edge between two faces, which become one.
BRIDGE = """routine bridge a b
given a.face != b.face
let c = a.prev
let d = b.prev
let g = a.face
let h = b.face
let u = a.corner
let v = b.corner
make p q
c.next = p
p.prev = c
p.next = b
b.prev = p
d.next = q
q.prev = d
q.next = a
a.prev = q
round p.face = g
g.some = p
drop h
p.corner = u
q.corner = v
tell q p"""

# A dangling edge.
SPUR = """routine spur a
let c = a.prev
let g = a.face
let u = a.corner
make p q
c.next = p
p.prev = c
p.next = q
q.prev = p
q.next = a
a.prev = q
p.face = g
q.face = g
p.corner = u
new corner w
q.corner = w
w.some = q
tell p q a"""

# A corner put into an edge.
HALVE = """routine halve a
let t = a.twin
let n = a.next
let m = t.prev
let f = a.face
let g = t.face
let v = t.corner
make p q
a.next = p
p.prev = a
if n == t
p.next = q
q.prev = p
else
p.next = n
n.prev = p
m.next = q
q.prev = m
end
q.next = t
t.prev = q
p.face = f
q.face = g
new corner w
round p.corner = w
w.some = t
q.corner = v
v.some = q
tell p"""

# An edge taken out between two faces.
MERGE = """routine merge a
given a.face != a.twin.face
given a.next != a
given a.twin.next != a.twin
let t = a.twin
let p = a.prev
let n = a.next
let m = t.prev
let k = t.next
let f = a.face
let g = t.face
let u = a.corner
let v = t.corner
p.next = k
k.prev = p
m.next = n
n.prev = m
drop a
drop g
round k.face = f
f.some = n
u.some = k
v.some = n
tell n k"""

# An edge taken out within a face, which becomes two.
CUT = """routine cut a
given a.face == a.twin.face
given a.next != a.twin
given a.prev != a.twin
let p = a.prev
let n = a.next
let m = a.twin.prev
let k = a.twin.next
let f = a.face
let u = a.corner
let v = a.twin.corner
p.next = k
k.prev = p
m.next = n
n.prev = m
drop a
f.some = n
new face g
round p.face = g
g.some = k
u.some = k
v.some = n"""

# A dangling edge taken out.
PRUNE = """routine prune a
given a.next == a.twin
given a.prev != a.twin
let t = a.twin
let p = a.prev
let k = t.next
let f = a.face
let u = a.corner
let v = t.corner
p.next = k
k.prev = p
drop t
drop v
f.some = p
u.some = k
tell k"""

# A piece of one edge taken out.
ERASE = """routine erase a
given a.next == a.twin
given a.prev == a.twin
let f = a.face
let u = a.corner
let v = a.twin.corner
drop a
drop v
drop u
drop f"""

# Two ends exchanged: within a face and a corner, between two, and so on.
SWAPS = """routine swapii a b
given a.face == b.face
given a.next.corner == b.next.corner
given a != b
let c = a.next
let d = b.next
let f = a.face
let u = c.corner
a.next = d
d.prev = a
b.next = c
c.prev = b
new face g
round b.face = g
g.some = b
f.some = a
new corner w
round d.corner = w
w.some = d
u.some = c

routine swapoo a b
given a.face != b.face
given a.next.corner != b.next.corner
let c = a.next
let d = b.next
let f = a.face
let g = b.face
let u = c.corner
let v = d.corner
a.next = d
d.prev = a
b.next = c
c.prev = b
round a.face = f
drop g
round c.corner = u
drop v
tell a b

routine swapio a b
given a.face == b.face
given a.next.corner != b.next.corner
let c = a.next
let d = b.next
let f = a.face
let u = c.corner
let v = d.corner
a.next = d
d.prev = a
b.next = c
c.prev = b
new face g
round b.face = g
g.some = b
f.some = a
round c.corner = u
drop v
tell c

routine swapoi a b
given a.face != b.face
given a.next.corner == b.next.corner
let c = a.next
let d = b.next
let f = a.face
let g = b.face
let u = c.corner
a.next = d
d.prev = a
b.next = c
c.prev = b
round c.face = f
drop g
new corner w
round d.corner = w
w.some = d
u.some = c
tell d"""

# Blocks three deep, names bound again in other parts, and paths of four links.
SORT = """routine sort a b c
if a == b
let d = c
if b == c
let e = d.twin
if a.prev.prev.prev.prev == c.next.next.next.next
let f = e.face
else
let f = e.corner
end
else
let e = d.next.prev.twin.twin
end
else
let d = a.corner
if b.face != c.face
end
let e = b.corner
end
tell a"""

# New labels instead of the old ones, in blocks.
REPAINT = """routine repaint a b
given a.twin.face != b.face
let c = a.face
let d = b.corner
let t = a.twin
let e = t.twin
if a == b
drop c
new face f
round a.face = f
f.some = b
else
if e != a
else
new corner f
drop d
round b.corner = f
f.some = b
end
end
tell b b"""

# A routine without lines behind the first one, one with a single fact, one that only tells.
PLAIN = """routine plain plain"""
ASK = """routine ask a b
given a.next.twin.next.prev == b.prev.twin.prev.prev"""
SHOW = """routine show a b c
tell c a b"""

RIGHT = {text.split(" ")[1]: text for text in (
    [JOIN, BRIDGE, SPUR, HALVE, MERGE, CUT, PRUNE, ERASE, SORT, REPAINT, PLAIN, ASK, SHOW]
    + SWAPS.split("\n\n"))}
RESERVED = ("routine script given let make drop if else end new round tell call next prev twin "
            "face corner some").split()

# Names of one to eight characters; some of them are beginnings of others or of words.
ODD_NAMES = ("n ne nex nextt r1 ro roun rounds e1 el els elsee endend fac faces a0000000 corner1 s so "
             "som somesome te t twi twin2 zzzzzzzz pre prev9 l le lett m ma makes z9z9z9z9").split()


def renamed(text, names):
    """The text with other names."""
    return re.sub("[a-z0-9]+", lambda found: names.get(found.group(), found.group()), text)


def names_in(text):
    """The names in a text, in the order of their first places."""
    return [word for word in dict.fromkeys(re.findall("[a-z0-9]+", text)) if word not in RESERVED]


def with_odd_names(text, turn):
    """The text with names of many lengths."""
    odd = ODD_NAMES[turn % len(ODD_NAMES):] + ODD_NAMES[:turn % len(ODD_NAMES)]
    return renamed(text, dict(zip(names_in(text), odd)))


TWICE = """script twice a b
given a.face == b.face
given a != b
call p = join a b
call join p b"""

GROW = """script grow a
call p q c = spur a
let d = q.prev.twin.next
call e = halve p
call f = join a q
call g = halve f
tell g e d"""

BACK = """script back a b
given a.next.face == b.prev.face
given a.corner != b.corner
call n = join a b
call merge n
tell b a"""

REMOVE = """script remove a
let b = a.next
call erase a
call show b b b"""

WALK = """script walk a join
given a == join.twin.twin
let b = a.next.next.next.next
let c = join.prev.prev.prev.prev
tell b c a"""

BOOK = "\n\n".join(list(RIGHT.values()) + [TWICE, GROW, BACK, REMOVE, WALK])
