"""Nights as texts: a row of divisors, a row for each party, a row for each pile."""

# Seven digits are enough for every number in a text; longer words are not even turned into integers.
MOST_DIGITS = 7


def number_in(word):
    """The integer that the word writes without needless zeros; None if it writes none."""
    if len(word) > MOST_DIGITS or not word.isdigit() or not word.isascii():
        return None
    if word[0] == "0" and len(word) > 1:
        return None
    return int(word)


def parts_in(text):
    """The parts (divisors, parties, piles) that the rows tell; None where they are not such rows in such an order.

    The parts can still be wrong: a word that is no number stands in them as None.
    """
    first, *rows = [row.split(" ") for row in text.split("\n")]
    if first[0] != "divisors":
        return None
    parties = []
    piles = []
    for words in rows:
        if words[0] == "party" and len(words) == 3 and len(piles) == 0:
            parties.append((words[1], number_in(words[2])))
        elif words[0] == "pile" and len(words) > 2:
            piles.append((number_in(words[1]), tuple(words[2:])))
        else:
            return None
    return tuple([number_in(word) for word in first[1:]]), tuple(parties), tuple(piles)


def text_of(divisors, parties, piles):
    """The text of a night with these parts."""
    rows = [" ".join(["divisors"] + [str(number) for number in divisors])]
    for name, count in parties:
        rows.append(f"party {name} {count}")
    for size, names in piles:
        rows.append(f"pile {size} " + " ".join(names))
    return "\n".join(rows)
