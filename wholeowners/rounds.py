"""Houses that are found round by round, each round drawn along by all earlier ones."""


def rounds(drawn):
    told = []
    earlier = []
    while True:
        further = [house for house in drawn(earlier) if house not in earlier]
        if further == []:
            return told
        told.append(further)
        earlier = earlier + further
