"""Elder words: which words hold a short word when they are grown by one round."""

MOST_LED_BACK = 12


def agreed(shown, word):
    """How many letters both have in common, from their first ones on."""
    many = 0
    for one, other in zip(shown, word):
        if one != other:
            return many
        many = many + 1
    return many


def goes(rules, elder, offset, word):
    """How far the elder word, grown and read from the offset on, goes along the word."""
    # not grown by writing.once: an elder word is not refused for how long it grows
    grown = "".join([rules.word(letter) for letter in elder])
    return agreed(grown[offset:], word)


def led_on(shown, word, place, onward):
    """How far it goes where what is shown begins at the place: a tuple (far, letters).

    The letters lead on behind what is shown to the word's end, and are no more than needed; None where none do.
    onward has such tuples by the places behind, told of where nothing is shown yet.
    """
    behind = place + agreed(shown, word[place:])
    if behind == len(word) or behind == place + len(shown):
        return onward[behind]
    return (behind, None)


def begun_with(letter, led):
    """The same tuple (far, letters) with the letter ahead of the letters."""
    if led[1] is None:
        return led
    return (led[0], letter + led[1])


def onward_by_places(rules, word):
    """By the places of the word: a tuple (far, letters) of the letters that go furthest from there on."""
    end = len(word)
    onward = {end: (end, "")}
    # from the end on: as no letter's word is without letters, a place needs those behind it alone;
    # nothing leads back to place 0, where the beginnings stand
    for place in range(end - 1, 0, -1):
        best = (place, None)
        for letter in rules.letters():
            led = led_on(rules.word(letter), word, place, onward)
            if led[0] > best[0]:
                best = begun_with(letter, led)
        onward[place] = best
    return onward


def elders(rules, word):
    """The word led back: for each beginning a tuple (letter, offset, far, elder)."""
    rules.word_of(word, MOST_LED_BACK)
    onward = onward_by_places(rules, word)
    told = []
    for letter in rules.letters():
        grown = rules.word(letter)
        for offset in range(len(grown)):
            led = begun_with(letter, led_on(grown[offset:], word, 0, onward))
            told.append((letter, offset, led[0], led[1]))
    return told
